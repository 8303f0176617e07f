/- A buffer, or two of them, that a law carries on. -/
import Derived.Test.YthifmfgnblecbaaCbNext
import Derived.Test.YthifmfgnblecbaaCbSure
import Derived.Test.YthifmfgnblecbaaCbLacks
set_option maxRecDepth 20000
set_option linter.unusedSimpArgs false
set_option linter.unusedVariables false
namespace Go.Proofs.Ythifmfgnblecbaa.Og.Cb
open Go.RowKit Go.Maps Go.Proofs.Ythifmfgnblecbaa.Vi Go.Proofs.Ythifmfgnblecbaa.Mk

def NextDone (w : World) (B b : Nat) (S : CS) (F : Nat → Prop) (e : Ending) (w' : World) : Prop := ∃ x : Rd, e = .returned (.tuple #[recV x.r x.dv, .bool (nextR S).isSome]) ∧ x.r = (nextR S).getD Rec.zero ∧ Ns w' x.dv x.r.d ∧ Buf w' B b (nextS S) (grow F w w') ∧ FrF F w w' ∧ (x.r.d ≠ [] → ∀ q, x.dv.ownBlock = some q → grow F w w' q)
theorem next_is {w : World} {B b : Nat} {S : CS} {F : Nat → Prop} (h : Buf w B b S F) (hB : B ≤ w.heap.size) : Calls Try.prog 12 #[.pointer (some ⟨b, 0, none⟩)] w (NextDone w B b S F) := by
  obtain ⟨mv, ov, h⟩ := h
  refine (next_gen (ov := ov) (F := F) B h.rb (fun b' e => ?_)).mono ?_
  · have e := congrArg Addr.block (Option.some.inj e)
    dsimp only at e
    subst e
    exact ⟨h, hB⟩
  · rintro e w' ⟨x, h1, h2, h3, h4⟩
    rcases h4 with ⟨h5, h6⟩ | ⟨b', e, h5, h6, h7⟩
    · refine ⟨x, h1, h2, h3, ?_, FrF.of h6, fun hd => ?_⟩
      · rw [nextS_none h5]; exact Buf.kept h hB h6
      · rw [h5] at h2
        have : x.r = Rec.zero := h2
        rw [this] at hd
        exact absurd rfl hd
    · have e := congrArg Addr.block (Option.some.inj e)
      dsimp only at e
      subst e
      exact ⟨x, h1, h2, h3, h5, h6, h7⟩
def NextNil (w : World) (e : Ending) (w' : World) : Prop := e = .returned (.tuple #[recV Rec.zero (.slice none 0 0), .bool false]) ∧ Below w.heap.size w w'
theorem next_nil (w : World) : Calls Try.prog 12 #[.pointer none] w fun e w' => ∃ x : Rd, e = .returned (.tuple #[recV x.r x.dv, .bool false]) ∧ Below w.heap.size w w' := by
  refine (next_gen (ov := .slice none 0 0) (F := fun _ => False) 0 (Rb.nil w) (fun b' e => by cases e)).mono ?_
  rintro e w' ⟨x, h1, h2, h3, h4⟩
  rcases h4 with ⟨h5, h6⟩ | ⟨b', e, -⟩
  · rw [h5] at h1
    exact ⟨x, h1, h6⟩
  · cases e
/-- A buffer that the call has made above w0, beside the blocks H of the law's own. -/
def Bx (H : Nat → Prop) (w0 w : World) (b : Nat) (S : CS) : Prop := ∃ F, Buf w w0.heap.size b S F ∧ (∀ q, F q → ¬ H q) ∧ Below w0.heap.size w0 w ∧ ∀ q, H q → q < w.heap.size
def Keep (H : Nat → Prop) (w w' : World) : Prop := w.heap.size ≤ w'.heap.size ∧ ∀ q, H q → w'.heap[q]? = w.heap[q]?
section
variable {H : Nat → Prop} {w0 w w' : World} {b c : Nat} {S T : CS}
theorem Bx.bel (h : Bx H w0 w b S) : Below w0.heap.size w0 w := by obtain ⟨F, -, -, h, -⟩ := h; exact h
theorem Bx.good (h : Bx H w0 w b S) : CGood S := by obtain ⟨F, h, -⟩ := h; exact h.good
theorem Bx.later (h : Bx H w0 w b S) (k : Below w.heap.size w w') : Bx H w0 w' b S := by
  obtain ⟨F, h1, h2, h3, h4⟩ := h
  exact ⟨F, h1.later k, h2, bel_next h3 k, fun q hq => Nat.lt_of_lt_of_le (h4 q hq) k.size⟩
theorem Bx.rb (h : Bx H w0 w b S) : ∃ mv, Rb w (some ⟨b, 0, none⟩) mv S := by
  obtain ⟨F, ⟨mv, ov, h1⟩, -⟩ := h
  exact ⟨mv, h1.rb⟩
/-- More blocks of the law's own: those that have just been made. -/
theorem Bx.hold (h : Bx H w0 w b S) (k : Below w.heap.size w w') : Bx (fun q => H q ∨ (w.heap.size ≤ q ∧ q < w'.heap.size)) w0 w' b S := by
  obtain ⟨F, h1, h2, h3, h4⟩ := h
  refine ⟨F, h1.later k, fun q hq hh => ?_, bel_next h3 k, fun q hq => ?_⟩
  · rcases hh with hh | hh
    · exact h2 q hq hh
    · have := (h1.fp q hq).2; omega
  · rcases hq with hq | hq
    · exact Nat.lt_of_lt_of_le (h4 q hq) k.size
    · exact hq.2
theorem Bx.less (h : Bx H w0 w b S) {H' : Nat → Prop} (k : ∀ q, H' q → H q) : Bx H' w0 w b S := by
  obtain ⟨F, h1, h2, h3, h4⟩ := h
  exact ⟨F, h1, fun q hq hh => h2 q hq (k q hh), h3, fun q hq => h4 q (k q hq)⟩
/-- The law turns its own. -/
theorem Bx.turn (h : Bx H w0 w b S) (k : FrF H w w') (hb : Below w0.heap.size w0 w') : Bx H w0 w' b S := by
  obtain ⟨F, h1, h2, h3, h4⟩ := h
  exact ⟨F, h1.off k h2, h2, hb, fun q hq => Nat.lt_of_lt_of_le (h4 q hq) k.size⟩
theorem Bx.Offer (h : Bx H w0 w b S) (x : Rd) (hN : Ns w x.dv x.r.d) (hf : x.r.fits) (hdl : x.r.d.length ≤ 1000000) :
    Calls Try.prog 16 #[.pointer (some ⟨b, 0, none⟩), recV x.r x.dv] w fun e w' => e = .returned (.int .i64 (offE S x.r)) ∧ Bx H w0 w' b (offS S x.r) ∧ Keep H w w' := by
  obtain ⟨F, h1, h2, h3, h4⟩ := h
  refine (offer_is h1 h3.size x hN hf hdl).mono ?_
  rintro e w' ⟨g1, g2, g3⟩
  refine ⟨g1, ⟨_, g2, fun q hq hh => ?_, ?_, fun q hq => Nat.lt_of_lt_of_le (h4 q hq) g3.size⟩, g3.size, fun q hq => g3.block q (h4 q hq) fun hh => h2 q hh hq⟩
  · rcases hq with hq | hq
    · exact h2 q hq hh
    · have := h4 q hh; omega
  · exact h3.trans (g3.below (fun q hq => (h1.fp q hq).1) h3.size)
theorem Bx.Next (h : Bx H w0 w b S) :
    Calls Try.prog 12 #[.pointer (some ⟨b, 0, none⟩)] w fun e w' => ∃ x : Rd, e = .returned (.tuple #[recV x.r x.dv, .bool (nextR S).isSome]) ∧ x.r = (nextR S).getD Rec.zero ∧ Ns w' x.dv x.r.d ∧ Bx H w0 w' b (nextS S) ∧ Keep H w w' := by
  obtain ⟨F, h1, h2, h3, h4⟩ := h
  refine (next_is h1 h3.size).mono ?_
  rintro e w' ⟨x, g0, g1, g2, g3, g4, g5⟩
  refine ⟨x, g0, g1, g2, ⟨_, g3, fun q hq hh => ?_, ?_, fun q hq => Nat.lt_of_lt_of_le (h4 q hq) g4.size⟩, g4.size, fun q hq => g4.block q (h4 q hq) fun hh => h2 q hh hq⟩
  · rcases hq with hq | hq
    · exact h2 q hq hh
    · have := h4 q hh; omega
  · exact h3.trans (g4.below (fun q hq => (h1.fp q hq).1) h3.size)
/-- Two buffers. -/
def Du (H : Nat → Prop) (w0 w : World) (b : Nat) (S : CS) (c : Nat) (T : CS) : Prop := ∃ F G, Buf w w0.heap.size b S F ∧ Buf w w0.heap.size c T G ∧ (∀ q, F q → ¬ G q) ∧ Below w0.heap.size w0 w ∧ (∀ q, H q → q < w.heap.size ∧ ¬ F q ∧ ¬ G q)
theorem Du.swap (h : Du H w0 w b S c T) : Du H w0 w c T b S := by
  obtain ⟨F, G, h1, h2, h3, h4, h5⟩ := h
  exact ⟨G, F, h2, h1, fun q hq hh => h3 q hh hq, h4, fun q hq => ⟨(h5 q hq).1, (h5 q hq).2.2, (h5 q hq).2.1⟩⟩
theorem Du.bel (h : Du H w0 w b S c T) : Below w0.heap.size w0 w := by obtain ⟨F, G, -, -, -, h, -⟩ := h; exact h
theorem Du.later (h : Du H w0 w b S c T) (k : Below w.heap.size w w') : Du H w0 w' b S c T := by
  obtain ⟨F, G, h1, h2, h3, h4, h5⟩ := h
  exact ⟨F, G, h1.later k, h2.later k, h3, bel_next h4 k, fun q hq => ⟨Nat.lt_of_lt_of_le (h5 q hq).1 k.size, (h5 q hq).2⟩⟩
theorem Du.hold (h : Du H w0 w b S c T) (k : Below w.heap.size w w') : Du (fun q => H q ∨ (w.heap.size ≤ q ∧ q < w'.heap.size)) w0 w' b S c T := by
  obtain ⟨F, G, h1, h2, h3, h4, h5⟩ := h
  refine ⟨F, G, h1.later k, h2.later k, h3, bel_next h4 k, fun q hq => ?_⟩
  rcases hq with hq | hq
  · exact ⟨Nat.lt_of_lt_of_le (h5 q hq).1 k.size, (h5 q hq).2⟩
  · exact ⟨hq.2, fun hh => by have := (h1.fp q hh).2; omega, fun hh => by have := (h2.fp q hh).2; omega⟩
theorem Du.less (h : Du H w0 w b S c T) {H' : Nat → Prop} (k : ∀ q, H' q → H q) : Du H' w0 w b S c T := by
  obtain ⟨F, G, h1, h2, h3, h4, h5⟩ := h
  exact ⟨F, G, h1, h2, h3, h4, fun q hq => h5 q (k q hq)⟩
theorem Du.new (h : Bx H w0 w b S) (hn : Buf w' w0.heap.size c T (fun q => w.heap.size ≤ q ∧ q < w'.heap.size)) (k : Below w.heap.size w w') : Du H w0 w' b S c T := by
  obtain ⟨F, h1, h2, h3, h4⟩ := h
  exact ⟨F, _, h1.later k, hn, fun q hq hh => by have := (h1.fp q hq).2; omega, bel_next h3 k, fun q hq => ⟨Nat.lt_of_lt_of_le (h4 q hq) k.size, fun hh => h2 q hh hq, fun hh => by have := h4 q hq; omega⟩⟩
theorem Du.Offer (h : Du H w0 w b S c T) (x : Rd) (hN : Ns w x.dv x.r.d) (hf : x.r.fits) (hdl : x.r.d.length ≤ 1000000) :
    Calls Try.prog 16 #[.pointer (some ⟨b, 0, none⟩), recV x.r x.dv] w fun e w' => e = .returned (.int .i64 (offE S x.r)) ∧ Du H w0 w' b (offS S x.r) c T ∧ Keep H w w' := by
  obtain ⟨F, G, h1, h2, h3, h4, h5⟩ := h
  refine (offer_is h1 h4.size x hN hf hdl).mono ?_
  rintro e w' ⟨g1, g2, g3⟩
  refine ⟨g1, ⟨_, G, g2, h2.off g3 (fun q hq hh => h3 q hh hq), fun q hq hh => ?_, h4.trans (g3.below (fun q hq => (h1.fp q hq).1) h4.size), fun q hq => ⟨Nat.lt_of_lt_of_le (h5 q hq).1 g3.size, fun hh => ?_, (h5 q hq).2.2⟩⟩, g3.size, fun q hq => g3.block q (h5 q hq).1 (h5 q hq).2.1⟩
  · rcases hq with hq | hq
    · exact h3 q hq hh
    · have := (h2.fp q hh).2; omega
  · rcases hh with hh | hh
    · exact (h5 q hq).2.1 hh
    · have := (h5 q hq).1; omega
theorem Du.Next (h : Du H w0 w b S c T) :
    Calls Try.prog 12 #[.pointer (some ⟨b, 0, none⟩)] w fun e w' => ∃ x : Rd, e = .returned (.tuple #[recV x.r x.dv, .bool (nextR S).isSome]) ∧ x.r = (nextR S).getD Rec.zero ∧ Ns w' x.dv x.r.d ∧ Du H w0 w' b (nextS S) c T ∧ Keep H w w' := by
  obtain ⟨F, G, h1, h2, h3, h4, h5⟩ := h
  refine (next_is h1 h4.size).mono ?_
  rintro e w' ⟨x, g0, g1, g2, g3, g4, g5⟩
  refine ⟨x, g0, g1, g2, ⟨_, G, g3, h2.off g4 (fun q hq hh => h3 q hh hq), fun q hq hh => ?_, h4.trans (g4.below (fun q hq => (h1.fp q hq).1) h4.size), fun q hq => ⟨Nat.lt_of_lt_of_le (h5 q hq).1 g4.size, fun hh => ?_, (h5 q hq).2.2⟩⟩, g4.size, fun q hq => g4.block q (h5 q hq).1 (h5 q hq).2.1⟩
  · rcases hq with hq | hq
    · exact h3 q hq hh
    · have := (h2.fp q hh).2; omega
  · rcases hh with hh | hh
    · exact (h5 q hq).2.1 hh
    · have := (h5 q hq).1; omega
/-- .. and then the other one, with what the first one has told still standing. -/
theorem Du.Next2 (h : Du H w0 w b S c T) :
    Calls Try.prog 12 #[.pointer (some ⟨b, 0, none⟩)] w fun e w' => ∃ x : Rd, e = .returned (.tuple #[recV x.r x.dv, .bool (nextR S).isSome]) ∧ x.r = (nextR S).getD Rec.zero ∧ ∀ W, Below w'.heap.size w' W → Calls Try.prog 12 #[.pointer (some ⟨c, 0, none⟩)] W fun e W' => ∃ y : Rd, e = .returned (.tuple #[recV y.r y.dv, .bool (nextR T).isSome]) ∧ y.r = (nextR T).getD Rec.zero ∧ Ns W' x.dv x.r.d ∧ Ns W' y.dv y.r.d ∧ Du H w0 W' b (nextS S) c (nextS T) ∧ (∀ g, w'.heap.size ≤ g → g < W.heap.size → W'.heap[g]? = W.heap[g]?) ∧ W.heap.size ≤ W'.heap.size ∧ Keep H w W' := by
  obtain ⟨F, G, h1, h2, h3, h4, h5⟩ := h
  refine (next_is h1 h4.size).mono ?_
  rintro e w' ⟨x, g0, g1, g2, g3, g4, g5⟩
  refine ⟨x, g0, g1, fun W k => ?_⟩
  have hb' := h4.trans (g4.below (fun q hq => (h1.fp q hq).1) h4.size)
  have hdis : ∀ q, grow F w w' q → ¬ G q := fun q hq hh => by
    rcases hq with hq | hq
    · exact h3 q hq hh
    · have := (h2.fp q hh).2; omega
  have h2' := (h2.off g4 (fun q hq hh => h3 q hh hq))
  refine (next_is (h2'.later k) (bel_next hb' k).size).mono ?_
  rintro e W' ⟨y, k0, k1, k2, k3, k4, k5⟩
  have hs4 := g4.size
  have hsk := k.size
  have hsk4 := k4.size
  refine ⟨y, k0, k1, Ns.off (Ns.later g2 k) k4.size (fun hd q hq hl => k4.block q hl (hdis q (g5 hd q hq))), k2, ⟨_, _, (g3.later k).off k4 hdis, k3, fun q hq hh => ?_, (bel_next hb' k).trans (k4.below (fun q hq => (h2'.fp q hq).1) (bel_next hb' k).size), fun q hq => ⟨by have := (h5 q hq).1; omega, fun hh => ?_, fun hh => ?_⟩⟩, fun g hg hl => k4.block g hl fun hh => by have := (h2'.fp g hh).2; omega, k4.size, ⟨by omega, fun q hq => ?_⟩⟩
  · rcases hh with hh | hh
    · exact hdis q hq hh
    · have := (g3.fp q hq).2; omega
  · rcases hh with hh | hh
    · exact (h5 q hq).2.1 hh
    · have := (h5 q hq).1; omega
  · rcases hh with hh | hh
    · exact (h5 q hq).2.2 hh
    · have := (h5 q hq).1; omega
  · have hl := (h5 q hq).1
    exact ((k4.block q (by omega) (h5 q hq).2.2).trans (k.block q (by omega))).trans (g4.block q hl (h5 q hq).2.1)
theorem Bx.next_some (h : Bx H w0 w b S) {r : Rec} (hr : nextR S = some r) : Calls Try.prog 12 #[.pointer (some ⟨b, 0, none⟩)] w fun e w' => ∃ (a : Option Addr) (k : Nat), e = .returned (.tuple #[recV r (.slice a r.d.length k), .bool true]) ∧ Ns w' (.slice a r.d.length k) r.d ∧ Bx H w0 w' b (nextS S) ∧ Keep H w w' := by
  refine h.Next.mono ?_
  rintro e w' ⟨⟨xr, xa, xk⟩, g0, g1, g2, g3, g4⟩
  rw [hr] at g0 g1
  dsimp only [Option.getD_some] at g1
  subst g1
  exact ⟨xa, xk, g0, g2, g3, g4⟩
theorem Bx.next_none (h : Bx H w0 w b S) (hr : nextR S = none) : Calls Try.prog 12 #[.pointer (some ⟨b, 0, none⟩)] w fun e w' => ∃ (a : Option Addr) (k : Nat), e = .returned (.tuple #[recV Rec.zero (.slice a 0 k), .bool false]) ∧ Bx H w0 w' b S ∧ Keep H w w' := by
  refine h.Next.mono ?_
  rintro e w' ⟨⟨xr, xa, xk⟩, g0, g1, g2, g3, g4⟩
  rw [hr] at g0 g1
  rw [nextS_none hr] at g3
  dsimp only [Option.getD_none] at g1
  subst g1
  exact ⟨xa, xk, g0, g3, g4⟩
theorem Du.next_some (h : Du H w0 w b S c T) {r : Rec} (hr : nextR S = some r) : Calls Try.prog 12 #[.pointer (some ⟨b, 0, none⟩)] w fun e w' => ∃ (a : Option Addr) (k : Nat), e = .returned (.tuple #[recV r (.slice a r.d.length k), .bool true]) ∧ Du H w0 w' b (nextS S) c T ∧ Keep H w w' := by
  refine h.Next.mono ?_
  rintro e w' ⟨⟨xr, xa, xk⟩, g0, g1, g2, g3, g4⟩
  rw [hr] at g0 g1
  dsimp only [Option.getD_some] at g1
  subst g1
  exact ⟨xa, xk, g0, g3, g4⟩
theorem Du.next_none (h : Du H w0 w b S c T) (hr : nextR S = none) : Calls Try.prog 12 #[.pointer (some ⟨b, 0, none⟩)] w fun e w' => ∃ (a : Option Addr) (k : Nat), e = .returned (.tuple #[recV Rec.zero (.slice a 0 k), .bool false]) ∧ Du H w0 w' b S c T ∧ Keep H w w' := by
  refine h.Next.mono ?_
  rintro e w' ⟨⟨xr, xa, xk⟩, g0, g1, g2, g3, g4⟩
  rw [hr] at g0 g1
  rw [nextS_none hr] at g3
  dsimp only [Option.getD_none] at g1
  subst g1
  exact ⟨xa, xk, g0, g3, g4⟩
end
/-- The law's own records. -/
def lawR (s q : Int) (d : List Int) : Rec := ⟨1, ⟨#[97]⟩, q, 0, 0, ⟨q, s, q⟩, d⟩
def RecDone (s q : Int) (d : List Int) (dv : Value) (w : World) (e : Ending) (w' : World) : Prop := e = .returned (recV (lawR s q d) dv) ∧ Below w.heap.size w w'
theorem record_is (s q : Int) (a : Option Addr) (c : Nat) (d : List Int) (w : World) : Calls Try.prog 29 #[.int .i64 s, .int .i64 q, .slice a d.length c] w (RecDone s q d (.slice a d.length c) w) := by
  obtain ⟨n, hn⟩ : ∃ n, d.length = n := ⟨_, rfl⟩
  rw [hn]
  have HN := Lib.hid hn
  clear hn
  go_enter Try.func29, Try.ntmps29
  go_wp2
  refine bodyPost_ret (v := recV (lawR s q d) (.slice a n c)) (by unfold recV lawR; simp [results, Try.results29, go_sem]; try rfl) rfl ⟨rfl, ?_⟩
  first | exact (Below.refl _ _).alloc (Nat.le_refl _) _ | trace_state
theorem lawR_fits (s q : Int) (d : List Int) (hs : 0 ≤ s ∧ s ≤ 100) (hq : 0 ≤ q ∧ q ≤ 100) : (lawR s q d).fits := ⟨by unfold lawR; dsimp only; omega, (show (1 : Nat) ≤ 1000000000 by omega), by unfold lawR; dsimp only; omega, by unfold lawR; dsimp only; omega, by unfold lawR; dsimp only; omega, by unfold lawR; dsimp only; omega⟩
end Go.Proofs.Ythifmfgnblecbaa.Og.Cb

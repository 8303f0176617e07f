/- The program's buffer and the document's, side by side. -/
import Derived.Test.YthifmfgnblecbaaCbDuo
import Derived.Test.YthifmfgnblecbaaCbEo
import Derived.Test.YthifmfgnblecbaaCbEn
set_option maxRecDepth 200000
set_option linter.unusedSimpArgs false
set_option linter.unusedVariables false
namespace Go.Proofs.Ythifmfgnblecbaa.Og.Cb
open Go.RowKit Go.Maps Go.Proofs.Ythifmfgnblecbaa.Vi Go.Proofs.Ythifmfgnblecbaa.Mk

/-- The program's buffer at b, the document's at c, beside the blocks H of the law's own. -/
def Cq (H : Nat → Prop) (w0 w : World) (b : Nat) (S : CS) (c : Nat) (T : CS) : Prop := ∃ (F G : Nat → Prop) (ov v : Value) (zs : List Rd), Buf w w0.heap.size b S F ∧ EbAt w w0.heap.size c ov v zs T G ∧ (∀ q, F q → ¬ G q) ∧ Below w0.heap.size w0 w ∧ (∀ q, H q → q < w.heap.size ∧ ¬ F q ∧ ¬ G q)
section
variable {H : Nat → Prop} {w0 w w' : World} {b c : Nat} {S T : CS}
theorem Cq.bel (h : Cq H w0 w b S c T) : Below w0.heap.size w0 w := by obtain ⟨F, G, ov, v, zs, -, -, -, h, -⟩ := h; exact h
theorem Cq.good (h : Cq H w0 w b S c T) : CGood S := by obtain ⟨F, G, ov, v, zs, h, -⟩ := h; exact h.good
theorem Cq.rb (h : Cq H w0 w b S c T) : ∃ mv, Rb w (some ⟨b, 0, none⟩) mv S := by
  obtain ⟨F, G, ov, v, zs, ⟨mv, o, h1⟩, -⟩ := h
  exact ⟨mv, h1.rb⟩
theorem Cq.doc (h : Cq H w0 w b S c T) : ∃ (G : Nat → Prop) (oa : Option Addr) (oc : Nat) (a : Option Addr) (cc : Nat) (zs : List Rd), EbAt w w0.heap.size c (.slice oa T.out.length oc) (.slice a T.L.length cc) zs T G := by
  obtain ⟨F, G, ov, v, zs, -, h, -⟩ := h
  obtain ⟨oa, oc, e1⟩ := h.ns.slice
  obtain ⟨a, cc, e2⟩ := h.row.slice
  subst e1 e2
  rw [h.len] at h
  exact ⟨G, oa, oc, a, cc, zs, h⟩
theorem Cq.later (h : Cq H w0 w b S c T) (k : Below w.heap.size w w') : Cq H w0 w' b S c T := by
  obtain ⟨F, G, ov, v, zs, h1, h2, h3, h4, h5⟩ := h
  exact ⟨F, G, ov, v, zs, h1.later k, h2.later k, h3, bel_next h4 k, fun q hq => ⟨Nat.lt_of_lt_of_le (h5 q hq).1 k.size, (h5 q hq).2⟩⟩
theorem Cq.hold (h : Cq H w0 w b S c T) (k : Below w.heap.size w w') : Cq (fun q => H q ∨ (w.heap.size ≤ q ∧ q < w'.heap.size)) w0 w' b S c T := by
  obtain ⟨F, G, ov, v, zs, h1, h2, h3, h4, h5⟩ := h
  refine ⟨F, G, ov, v, zs, h1.later k, h2.later k, h3, bel_next h4 k, fun q hq => ?_⟩
  rcases hq with hq | hq
  · exact ⟨Nat.lt_of_lt_of_le (h5 q hq).1 k.size, (h5 q hq).2⟩
  · exact ⟨hq.2, fun hh => by have := (h1.fp q hh).2; omega, fun hh => by have := (h2.fp q hh).2; omega⟩
theorem Cq.less (h : Cq H w0 w b S c T) {H' : Nat → Prop} (k : ∀ q, H' q → H q) : Cq H' w0 w b S c T := by
  obtain ⟨F, G, ov, v, zs, h1, h2, h3, h4, h5⟩ := h
  exact ⟨F, G, ov, v, zs, h1, h2, h3, h4, fun q hq => h5 q (k q hq)⟩
theorem Cq.new (h : Bx H w0 w b S) {ov v : Value} {zs : List Rd} (hn : EbAt w' w0.heap.size c ov v zs T (fun q => w.heap.size ≤ q ∧ q < w'.heap.size)) (k : Below w.heap.size w w') : Cq H w0 w' b S c T := by
  obtain ⟨F, h1, h2, h3, h4⟩ := h
  exact ⟨F, _, ov, v, zs, h1.later k, hn, fun q hq hh => by have := (h1.fp q hq).2; omega, bel_next h3 k, fun q hq => ⟨Nat.lt_of_lt_of_le (h4 q hq) k.size, fun hh => h2 q hh hq, fun hh => by have := h4 q hq; omega⟩⟩
theorem Cq.Offer (h : Cq H w0 w b S c T) (x : Rd) (hN : Ns w x.dv x.r.d) (hf : x.r.fits) (hdl : x.r.d.length ≤ 1000000) :
    Calls Try.prog 16 #[.pointer (some ⟨b, 0, none⟩), recV x.r x.dv] w fun e w' => e = .returned (.int .i64 (offE S x.r)) ∧ Cq H w0 w' b (offS S x.r) c T ∧ Keep H w w' := by
  obtain ⟨F, G, ov, v, zs, h1, h2, h3, h4, h5⟩ := h
  refine (offer_is h1 h4.size x hN hf hdl).mono ?_
  rintro e w' ⟨g1, g2, g3⟩
  refine ⟨g1, ⟨_, G, ov, v, zs, g2, h2.off g3 (fun q hq hh => h3 q hh hq) (fun q hq => (h1.fp q hq).1), fun q hq hh => ?_, h4.trans (g3.below (fun q hq => (h1.fp q hq).1) h4.size), fun q hq => ⟨Nat.lt_of_lt_of_le (h5 q hq).1 g3.size, fun hh => ?_, (h5 q hq).2.2⟩⟩, g3.size, fun q hq => g3.block q (h5 q hq).1 (h5 q hq).2.1⟩
  · rcases hq with hq | hq
    · exact h3 q hq hh
    · have := (h2.fp q hh).2; omega
  · rcases hh with hh | hh
    · exact (h5 q hq).2.1 hh
    · have := (h5 q hq).1; omega
theorem Cq.EOffer (h : Cq H w0 w b S c T) (x : Rd) (hN : Ns w x.dv x.r.d) (hf : x.r.fits) (ho : x.r.d ≠ [] → ∀ q, x.dv.ownBlock = some q → q < w0.heap.size) :
    Calls Try.prog 17 #[.pointer (some ⟨c, 0, none⟩), recV x.r x.dv] w fun e w' => e = .returned (.int .i64 (offE T x.r)) ∧ Cq H w0 w' b S c (offS T x.r) ∧ Keep H w w' := by
  obtain ⟨F, G, ov, v, zs, h1, h2, h3, h4, h5⟩ := h
  refine (eoffer_is h2 h4.size x hN hf ho).mono ?_
  rintro e w' ⟨g1, ⟨v', zs', g2⟩, g3⟩
  refine ⟨g1, ⟨F, _, ov, v', zs', h1.off g3 (fun q hq hh => h3 q hq hh), g2, fun q hq hh => ?_, h4.trans (g3.below (fun q hq => (h2.fp q hq).1) h4.size), fun q hq => ⟨Nat.lt_of_lt_of_le (h5 q hq).1 g3.size, (h5 q hq).2.1, fun hh => ?_⟩⟩, g3.size, fun q hq => g3.block q (h5 q hq).1 (h5 q hq).2.2⟩
  · rcases hh with hh | hh
    · exact h3 q hq hh
    · have := (h1.fp q hq).2; omega
  · rcases hh with hh | hh
    · exact (h5 q hq).2.2 hh
    · have := (h5 q hq).1; omega
theorem Cq.Next (h : Cq H w0 w b S c T) :
    Calls Try.prog 12 #[.pointer (some ⟨b, 0, none⟩)] w fun e w' => ∃ x : Rd, e = .returned (.tuple #[recV x.r x.dv, .bool (nextR S).isSome]) ∧ x.r = (nextR S).getD Rec.zero ∧ ∀ W, Below w'.heap.size w' W → Calls Try.prog 13 #[.pointer (some ⟨c, 0, none⟩)] W fun e W' => ∃ y : Rd, e = .returned (.tuple #[recV y.r y.dv, .bool (nextR T).isSome]) ∧ y.r = (nextR T).getD Rec.zero ∧ Ns W' x.dv x.r.d ∧ Ns W' y.dv y.r.d ∧ Cq H w0 W' b (nextS S) c (nextS T) ∧ (∀ g, w'.heap.size ≤ g → g < W.heap.size → W'.heap[g]? = W.heap[g]?) ∧ W.heap.size ≤ W'.heap.size ∧ Keep H w W' := by
  obtain ⟨F, G, ov, v, zs, h1, h2, h3, h4, h5⟩ := h
  refine (next_is h1 h4.size).mono ?_
  rintro e w' ⟨x, g0, g1, g2, g3, g4, g5⟩
  refine ⟨x, g0, g1, fun W k => ?_⟩
  have e2 : EbAt W w0.heap.size c ov v zs T G := (h2.off g4 (fun q hq hh => h3 q hh hq) (fun q hq => (h1.fp q hq).1)).later k
  have hW : w0.heap.size ≤ W.heap.size := Nat.le_trans h4.size (Nat.le_trans g4.size k.size)
  have hfg : ∀ q, grow F w w' q → ¬ G q := fun q hq hh => by
    rcases hq with hq | hq
    · exact h3 q hq hh
    · have := (h2.fp q hh).2; omega
  refine (enext_is e2 hW).mono ?_
  rintro e W' ⟨y, ov', v', zs', k0, k1, k2, k3, k4, k5⟩
  have hsz := k.size
  have hgs := g4.size
  refine ⟨y, k0, k1, ?_, k2, ⟨grow F w w', _, ov', v', zs', (g3.later k).off k4 hfg, k3, fun q hq hh => ?_, ?_, fun q hq => ⟨?_, fun hh => ?_, fun hh => ?_⟩⟩, fun g hg hlt => k4.block g hlt fun hh => by have := (h2.fp g hh).2; omega, k4.size, ?_⟩
  · exact Ns.off (Ns.later g2 k) k4.size fun hd q hq hl => k4.block q hl (hfg q (g5 hd q hq))
  · rcases hh with hh | hh
    · exact hfg q hq hh
    · have := (g3.fp q hq).2; omega
  · exact (h4.trans ((g4.below (fun q hq => (h1.fp q hq).1) h4.size))).trans ((k.mono (Nat.le_trans h4.size g4.size)).trans (k4.below (fun q hq => (h2.fp q hq).1) hW))
  · have := (h5 q hq).1; have := k4.size; omega
  · rcases hh with hh | hh
    · exact (h5 q hq).2.1 hh
    · have := (h5 q hq).1; omega
  · rcases hh with hh | hh
    · exact (h5 q hq).2.2 hh
    · have := (h5 q hq).1; omega
  · refine ⟨by have := k4.size; omega, fun q hq => ?_⟩
    exact (k4.block q (by have := (h5 q hq).1; omega) (h5 q hq).2.2).trans ((k.block q (by have := (h5 q hq).1; omega)).trans (g4.block q (h5 q hq).1 (h5 q hq).2.1))
end
end Go.Proofs.Ythifmfgnblecbaa.Og.Cb

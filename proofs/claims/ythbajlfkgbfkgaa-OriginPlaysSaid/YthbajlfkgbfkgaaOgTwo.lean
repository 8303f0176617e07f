/- Two logs side by side. -/
import Derived.Test.YthbajlfkgbfkgaaOgSame
import Derived.Test.YthbajlfkgbfkgaaOgTrimsMath
set_option maxRecDepth 20000
set_option linter.unusedSimpArgs false
set_option linter.unusedVariables false
namespace Go.Proofs.Ythbajlfkgbfkgaa.Og
open Go.RowKit Go.Proofs.Ythbajlfkgbfkgaa.Vi Go.Proofs.Ythbajlfkgbfkgaa.Mk

/-- The logs at b1 and b2, in blocks of their own; the blocks of H are neither's. -/
structure Two (H : Nat → Prop) (w0 w : World) (b1 : Nat) (S : OS) (b2 : Nat) (T : OS) : Prop where
  has : ∃ F1 F2, LogAt w w0.heap.size b1 S F1 ∧ LogAt w w0.heap.size b2 T F2 ∧ (∀ q, F1 q → ¬ F2 q) ∧ ∀ q, H q → ¬ F1 q ∧ ¬ F2 q ∧ q < w.heap.size
  bel : Below w0.heap.size w0 w
def noH (_ : Nat) : Prop := False
theorem Two.swap {H : Nat → Prop} {w0 w : World} {b1 b2 : Nat} {S T : OS} (h : Two H w0 w b1 S b2 T) : Two H w0 w b2 T b1 S := by
  obtain ⟨⟨F1, F2, h1, h2, h3, h4⟩, h5⟩ := h
  exact ⟨⟨F2, F1, h2, h1, fun q a b => h3 q b a, fun q hq => ⟨(h4 q hq).2.1, (h4 q hq).1, (h4 q hq).2.2⟩⟩, h5⟩
theorem Two.later {H : Nat → Prop} {w0 w w' : World} {b1 b2 : Nat} {S T : OS} (h : Two H w0 w b1 S b2 T) (k : Below w.heap.size w w') : Two H w0 w' b1 S b2 T := by
  obtain ⟨⟨F1, F2, h1, h2, h3, h4⟩, h5⟩ := h
  exact ⟨⟨F1, F2, h1.later k, h2.later k, h3, fun q hq => ⟨(h4 q hq).1, (h4 q hq).2.1, Nat.lt_of_lt_of_le (h4 q hq).2.2 k.size⟩⟩, bel_next h5 k⟩
theorem Two.one {H : Nat → Prop} {w0 w : World} {b1 b2 : Nat} {S T : OS} (h : Two H w0 w b1 S b2 T) : Lg w0 w b1 S := by
  obtain ⟨⟨F1, F2, h1, h2, h3, h4⟩, h5⟩ := h; exact ⟨F1, h1, h5⟩
theorem Two.two {H : Nat → Prop} {w0 w : World} {b1 b2 : Nat} {S T : OS} (h : Two H w0 w b1 S b2 T) : Lg w0 w b2 T := h.swap.one
theorem Two.good {H : Nat → Prop} {w0 w : World} {b1 b2 : Nat} {S T : OS} (h : Two H w0 w b1 S b2 T) : Good S := h.one.good
theorem Two.Know {H : Nat → Prop} {w0 w : World} {b1 b2 : Nat} {S T : OS} (h : Two H w0 w b1 S b2 T) : Calls Try.prog 26 #[.pointer (some ⟨b1, 0, none⟩)] w (VNew S.know w) := h.one.Know
/-- Blocks that a call has made are held from then on. -/
theorem Two.hold {H : Nat → Prop} {w0 w w' : World} {b1 b2 : Nat} {S T : OS} (h : Two H w0 w b1 S b2 T) (k : Below w.heap.size w w') : Two (fun q => H q ∨ (w.heap.size ≤ q ∧ q < w'.heap.size)) w0 w' b1 S b2 T := by
  obtain ⟨⟨F1, F2, h1, h2, h3, h4⟩, h5⟩ := h
  refine ⟨⟨F1, F2, h1.later k, h2.later k, h3, fun q hq => ?_⟩, bel_next h5 k⟩
  rcases hq with hq | hq
  · exact ⟨(h4 q hq).1, (h4 q hq).2.1, Nat.lt_of_lt_of_le (h4 q hq).2.2 k.size⟩
  · exact ⟨fun e => by have := (h1.fp q e).2; omega, fun e => by have := (h2.fp q e).2; omega, hq.2⟩
theorem Two.less {H H' : Nat → Prop} {w0 w : World} {b1 b2 : Nat} {S T : OS} (h : Two H w0 w b1 S b2 T) (k : ∀ q, H' q → H q) : Two H' w0 w b1 S b2 T := by
  obtain ⟨⟨F1, F2, h1, h2, h3, h4⟩, h5⟩ := h
  exact ⟨⟨F1, F2, h1, h2, h3, fun q hq => h4 q (k q hq)⟩, h5⟩
/-- What a call that adds to the first one leaves. -/
def AddTwo (H : Nat → Prop) (w0 w : World) (b1 : Nat) (S : OS) (b2 : Nat) (T : OS) (r : Rec) (e : Ending) (w' : World) : Prop :=
  e = .returned (.int .i64 (addE S r)) ∧ Two H w0 w' b1 (addS S r) b2 T ∧ (∀ q, H q → w'.heap[q]? = w.heap[q]?) ∧ w.heap.size ≤ w'.heap.size
theorem Two.Add {H : Nat → Prop} {w0 w : World} {b1 b2 : Nat} {S T : OS} (h : Two H w0 w b1 S b2 T) (x : Rd) (hN : Ns w x.dv x.r.d) (hf : x.r.fits) (hsz : x.r.s.size ≤ 100000) (hdl : x.r.d.length ≤ 1000000) :
    Calls Try.prog 20 #[.pointer (some ⟨b1, 0, none⟩), .agg #[.int .i64 x.r.k, .string x.r.s, .int .i64 x.r.t, .int .i64 x.r.v, .int .i64 x.r.tier, .int .i64 x.r.st.c, .int .i64 x.r.st.s, .int .i64 x.r.st.q, .slice x.a x.r.d.length x.c]] w (AddTwo H w0 w b1 S b2 T x.r) := by
  obtain ⟨⟨F1, F2, h1, h2, h3, h4⟩, h5⟩ := h
  refine (add_is h1 x hN hf hsz hdl).mono fun e w' hd => ⟨hd.1, ⟨⟨grow F1 w w', F2, hd.2.1, h2.off hd.2.2 (fun q a b => h3 q b a) (fun q hq => (h1.fp q hq).1), fun q hq k => ?_, fun q hq => ⟨fun k => ?_, (h4 q hq).2.1, Nat.lt_of_lt_of_le (h4 q hq).2.2 hd.2.2.size⟩⟩, h5.trans (hd.2.2.below (fun q hq => (h1.fp q hq).1) h5.size)⟩, fun q hq => hd.2.2.block q (h4 q hq).2.2 (h4 q hq).1, hd.2.2.size⟩
  · rcases hq with hq | hq
    · exact h3 q hq k
    · have := (h2.fp q k).2; omega
  · rcases k with k | k
    · exact (h4 q hq).1 k
    · have := (h4 q hq).2.2; omega
theorem Two.AddR {H : Nat → Prop} {w0 w : World} {b1 b2 : Nat} {S T : OS} (h : Two H w0 w b1 S b2 T) (x : Rd) (hN : Ns w x.dv x.r.d) (hf : x.r.fits) (hsz : x.r.s.size ≤ 100000) (hdl : x.r.d.length ≤ 1000000) :
    Calls Try.prog 20 #[.pointer (some ⟨b1, 0, none⟩), .agg #[.int .i64 x.r.k, .string x.r.s, .int .i64 x.r.t, .int .i64 x.r.v, .int .i64 x.r.tier, .int .i64 x.r.st.c, .int .i64 x.r.st.s, .int .i64 x.r.st.q, .slice x.a x.r.d.length x.c]] w fun e w' => e = .returned (.int .i64 (addE S x.r)) ∧ Two H w0 w' b1 (addS S x.r) b2 T :=
  (h.Add x hN hf hsz hdl).mono fun e w' hd => ⟨hd.1, hd.2.1⟩
theorem Two.made {w0 w : World} {b1 : Nat} {S : OS} (h : Lg w0 w b1 S) (room : Int) : Calls Try.prog 10 #[.int .i64 room, .slice none 0 0] w fun e w' => ∃ b2, e = .returned (.pointer (some ⟨b2, 0, none⟩)) ∧ Two noH w0 w' b1 S b2 (newS room []) := by
  obtain ⟨F, h1, h2⟩ := h
  refine (new_is room (.slice none 0 0) [] w (ns_nil w)).mono ?_
  rintro e w' ⟨b, rfl, h3, h4, h5⟩
  exact ⟨b, rfl, ⟨F, _, h1.later h5, h4 _ h2.size, fun q hq k => by have := (h1.fp q hq).2; omega, fun q hq => hq.elim⟩, bel_next h2 h5⟩
/-- The first j records of a log. -/
def preS (S : OS) (j : Nat) : OS := ⟨400, [], S.L.take j, clk (S.L.take j)⟩
theorem preS_zero {S : OS} : preS S 0 = newS 400 [] := by
  unfold preS newS
  rw [plain_nil]; rfl
theorem preS_all {S : OS} {k : Nat} (h : Grew0 S 400 k) : preS S S.L.length = S := by
  unfold preS
  rw [List.take_length, ← h.ck]
  have h1 := h.rm
  have h2 := h.base
  cases S; dsimp only at *; rw [h1, h2]
theorem preS_know {S : OS} {k : Nat} (h : Grew0 S 400 k) (j : Nat) : (preS S j).know = knowL S.base (S.L.take j) := by rw [h.base]; rfl
theorem preS_addE {S : OS} {k : Nat} (h : Grew0 S 400 k) (hg : Good S) (hk : k ≤ 60) {j : Nat} (hj : j < S.L.length) : addE (preS S j) S.L[j] = 0 := by
  obtain ⟨h1, h2, h3⟩ := chain_at hg.ch hj
  rw [← preS_know h] at h2 h3
  refine addE_yes h1 ⟨h2, h3⟩ ?_
  have := h.len
  unfold preS; dsimp only
  rw [List.length_take]; omega
theorem preS_addS {S : OS} {k : Nat} (h : Grew0 S 400 k) (hg : Good S) (hk : k ≤ 60) {j : Nat} (hj : j < S.L.length) : addS (preS S j) S.L[j] = preS S (j + 1) := by
  rw [addS_yes (preS_addE h hg hk hj)]
  unfold preS; dsimp only
  rw [List.take_succ_eq_append_getElem hj, clk_snoc]
theorem preS_told {S : OS} {k : Nat} (h : Grew0 S 400 k) (hg : Good S) {j : Nat} (hj : j ≤ S.L.length) (n : Int) : aftR S (preS S j).know n = (S.L.drop j).take n.toNat := by
  unfold aftR
  rw [h.base, cov_nil, if_pos rfl]
  unfold someL
  rw [preS_know h, aft_drop hg.ch hj]
end Go.Proofs.Ythbajlfkgbfkgaa.Og

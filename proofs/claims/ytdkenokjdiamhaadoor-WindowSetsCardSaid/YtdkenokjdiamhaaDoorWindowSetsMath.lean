/- Plain mathematics: a set of the program's and the document's bits; both side by side. -/
import Derived.Test.YtdkenokjdiamhaaDoorWindowTwoMath
import Derived.Test.YtdkenokjdiamhaaDoorWindowMark
import Derived.Test.YtdkenokjdiamhaaDoorWindowBits
set_option maxRecDepth 20000
namespace Go.Proofs.YtdkenokjdiamhaaDoor
open Go.RowKit

theorem setsNew_nil (w : World) : Calls Tryd.prog 33 #[.slice none 0 0] w (NewDone [] w) := new_is none 0 [] (Or.inl rfl) (Lib.hid fun k h => by simp at h) (by simp) w ⟨Or.inl rfl⟩
theorem setsNewOk_nil {T : List Sp} (h : NewOk [] T) : T = [] := by
  refine Canon.uniq h.canon ⟨List.Pairwise.nil, by simp⟩ fun x => ?_
  rw [h.has x]; unfold inS; simp
theorem setsChanged {T L : List Sp} {z : Bool} (h : (T ≠ L) ↔ z = true) : changed T L = z := by
  unfold changed
  cases z with
  | true => exact decide_eq_true (h.2 rfl)
  | false => exact decide_eq_false (fun e => by have := h.1 e; cases this)
/-- The set's times are those whose bits are set. -/
structure BitsOf (L : List Sp) (B : List Bool) : Prop where
  canon : Canon L
  has : ∀ x, inS L x ↔ 0 ≤ x ∧ B.getD x.toNat false = true
  len : B.length ≤ 460
theorem BitsOf.nil : BitsOf [] [] := ⟨⟨List.Pairwise.nil, by simp⟩, fun x => Iff.intro (fun hx => (by obtain ⟨s, hs, _⟩ := hx; cases hs)) (fun hx => by simp at hx), by simp⟩
theorem getD_lt {B : List Bool} {n : Nat} (h : B.getD n false = true) : n < B.length := by
  apply Decidable.byContradiction
  intro hn
  rw [List.getD_eq_getElem?_getD, List.getElem?_eq_none (by omega)] at h
  cases h
theorem BitsOf.lt {L : List Sp} {B : List Bool} (h : BitsOf L B) : ∀ x, inS L x → x < 1000 := fun x hx => by
  have h1 := (h.has x).1 hx
  have := getD_lt h1.2
  have := h.len
  omega
theorem BitsOf.few {L : List Sp} {B : List Bool} (h : BitsOf L B) : L.length ≤ 1000 := h.canon.len_le (K := 1000) h.lt
theorem BitsOf.spans {L : List Sp} {B : List Bool} (h : BitsOf L B) : spansN B B.length = L := by
  have k := spansN_ok B B.length
  refine Canon.uniq k.canon h.canon fun x => ?_
  rw [k.has x, h.has x]
  constructor
  · rintro ⟨h1, _, h3⟩; exact ⟨h1, h3⟩
  · rintro ⟨h1, h3⟩; have := getD_lt h3; exact ⟨h1, by omega, h3⟩
theorem BitsOf.in_ {L : List Sp} {B : List Bool} (h : BitsOf L B) {t : Int} {z : Bool} (hz : z = true ↔ 0 ≤ t ∧ B.getD t.toNat false = true) : hasD L t = z := by
  rw [Bool.eq_iff_iff, hasD_iff, h.has t, hz]
instance (s : Sp) (x : Int) : Decidable (cov s x) := by unfold cov; infer_instance
theorem BitsOf.mark {L T : List Sp} {B : List Bool} {s : Sp} (h : BitsOf L B) (x : Bool) (hs : s.t < 460) (hC : Canon T) (hT : ∀ y, inS T y ↔ if cov s y then x = true else inS L y) :
    BitsOf T (markB B s x).1 ∧ changed T L = (markB B s x).2 := by
  cases hi : s.is with
  | false =>
    have e : markB B s x = (B, false) := by unfold markB; rw [hi, if_neg (by simp)]
    have hn : ∀ y, ¬ cov s y := by
      rintro y ⟨h1, _⟩
      unfold Sp.some_ at h1
      rw [hi] at h1
      cases h1
    have hTL : T = L := Canon.uniq hC h.canon fun y => by rw [hT y, if_neg (hn y)]
    rw [e, hTL]
    exact ⟨h, by simp [changed]⟩
  | true =>
    have e : markB B s x = markN x s.f.toNat (s.t - s.f).toNat B := by unfold markB; rw [if_pos hi]
    have hp := Sp.is_iff.1 hi
    have hcov : ∀ y, cov s y ↔ s.f ≤ y ∧ y < s.t := fun y => by
      unfold cov
      rw [Sp.some_iff]
      omega
    rw [e]
    obtain ⟨f, hf⟩ : ∃ f, s.f.toNat = f := ⟨_, rfl⟩
    obtain ⟨k, hk⟩ : ∃ k, (s.t - s.f).toNat = k := ⟨_, rfl⟩
    rw [hf, hk]
    have hg := markN_get x f k B
    refine ⟨⟨hC, fun y => ?_, ?_⟩, setsChanged ?_⟩
    · rw [hT y, hg y.toNat]
      by_cases hy : cov s y
      · have := (hcov y).1 hy
        rw [if_pos hy, if_pos (by omega)]
        exact ⟨fun h => ⟨by omega, h⟩, fun h => h.2⟩
      · rw [if_neg hy, h.has y]
        have := mt (hcov y).2 hy
        by_cases h0 : 0 ≤ y
        · rw [if_neg (by omega)]
        · exact ⟨fun h => absurd h.1 h0, fun h => absurd h.1 h0⟩
    · have := markN_length x f k B
      have := h.len
      omega
    · rw [markN_changed]
      constructor
      · intro hne
        apply Classical.byContradiction
        intro hno
        refine hne (Canon.uniq hC h.canon fun y => ?_)
        rw [hT y]
        by_cases hy : cov s y
        · rw [if_pos hy, h.has y]
          have h1 := (hcov y).1 hy
          have h2 : B.getD y.toNat false = x := by
            apply Decidable.byContradiction
            intro h3
            exact hno ⟨y.toNat, by omega, by omega, h3⟩
          rw [h2]
          exact ⟨fun h => ⟨by omega, h⟩, fun h => h.2⟩
        · rw [if_neg hy]
      · rintro ⟨i, h1, h2, h3⟩ e2
        have hy : cov s (i : Int) := (hcov _).2 (by omega)
        have h4 := hT (i : Int)
        rw [if_pos hy, e2, h.has (i : Int), Int.toNat_natCast] at h4
        have h5 : B.getD i false = true ↔ x = true := ⟨fun h => h4.1 ⟨by omega, h⟩, fun h => (h4.2 h).2⟩
        exact h3 (Bool.eq_iff_iff.2 h5)
theorem BitsOf.add {L T : List Sp} {B : List Bool} {s : Sp} (h : BitsOf L B) (hs : s.t < 460) (k : AddOk L s T) : BitsOf T (markB B s true).1 ∧ changed T L = (markB B s true).2 :=
  h.mark true hs k.canon fun y => by
    rw [k.has y]
    show (inS L y ∨ cov s y) ↔ _
    by_cases hy : cov s y
    · rw [if_pos hy]; simp [hy]
    · rw [if_neg hy]; simp [hy]
theorem BitsOf.take {L T : List Sp} {B : List Bool} {s : Sp} (h : BitsOf L B) (hs : s.t < 460) (k : TakeOk L s T) : BitsOf T (markB B s false).1 ∧ changed T L = (markB B s false).2 :=
  h.mark false hs k.canon fun y => by
    rw [k.has y]
    show (inS L y ∧ ¬ cov s y) ↔ _
    by_cases hy : cov s y
    · rw [if_pos hy]; simp [hy]
    · rw [if_neg hy]; simp [hy]

theorem BitsAt.new (w : World) (T : TypeId) : BitsAt (w.alloc (.cells #[.slice none 0 0] T)) w.heap.size (.slice none 0 0) [] := ⟨by simp [go_sem], by simp [go_sem], World.ownsRow_nil _ _ _ _⟩
theorem BitsAt.other {w w' : World} {b b' : Nat} {u v v' : Value} {L : List Bool} (h : BitsAt w b u L) (k : Moves w w' b' v v') (h1 : b ≠ b') (h2 : v.ownBlock ≠ some b) (h3 : u.ownBlock ≠ some b') (h4 : ∀ q, u.ownBlock = some q → v.ownBlock ≠ some q) : BitsAt w' b u L := by
  have hb := k.block b h.room h1 (Ne.symm h2)
  refine ⟨(World.cell?_of_block (a := ⟨b, 0, none⟩) hb).trans h.cell, (World.frozen?_of_block (a := ⟨b, 0, none⟩) hb).trans h.free, h.row.1, ?_⟩
  rcases h.row.2 with e | ⟨g, cap, cur, e, hB, hg, hrest⟩
  · exact Or.inl e
  · have hgl : g < w.heap.size := (Array.getElem?_eq_some_iff.1 hg).1
    have e1 : u.ownBlock = some g := by rw [e]; rfl
    exact Or.inr ⟨g, cap, cur, e, hB, (k.block g hgl (fun e2 => h3 (by rw [e1, e2])) (Ne.symm (h4 g e1))).trans hg, hrest⟩
/-- Both, neither in the other's memory. -/
structure SK (w : World) (ba bd : Nat) (va vy : Value) (La : List Sp) (B : List Bool) (wr : World) : Prop where
  set : SetAt wr ba va La
  bits : BitsAt wr bd vy B
  ne : ba ≠ bd
  n1 : va.ownBlock ≠ some bd
  n2 : vy.ownBlock ≠ some ba
  n3 : ∀ q, va.ownBlock = some q → vy.ownBlock ≠ some q
  tab : Tab wr
  bel : Below w.heap.size w wr
  ga : w.heap.size ≤ ba
  gb : w.heap.size ≤ bd
theorem SK.keep {w w1 w2 : World} {ba bd : Nat} {va vy : Value} {La : List Sp} {B : List Bool} (h : SK w ba bd va vy La B w1) (k : Below w1.heap.size w1 w2) : SK w ba bd va vy La B w2 :=
  ⟨h.set.later k, h.bits.later k, h.ne, h.n1, h.n2, h.n3, h.tab.next k, bel_next h.bel k, h.ga, h.gb⟩
theorem SK.drew {w w1 : World} {ba bd : Nat} {va vy : Value} {La : List Sp} {B : List Bool} (h : SK w ba bd va vy La B w1) : SK w ba bd va vy La B w1.drew := h.keep ((Below.refl _ _).drew)
theorem SK.moveA {w w1 w2 : World} {ba bd : Nat} {va va' vy : Value} {La La' : List Sp} {B : List Bool} (h : SK w ba bd va vy La B w1) (hT : Tab w) (k : Moves w1 w2 ba va va') (hs : SetAt w2 ba va' La') : SK w ba bd va' vy La' B w2 := by
  have hb : Below w.heap.size w1 w2 := k.below h.bel.size h.ga (fun q e => by have := (World.ownsRow.lt h.set.row q e).1; have := h.ga; omega)
  refine ⟨hs, h.bits.other k (Ne.symm h.ne) h.n1 h.n2 (fun q e e2 => h.n3 q e2 e), h.ne, k.not h.n1 h.bits.room, h.n2, fun q e e2 => ?_, h.tab.below hb hT.room, h.bel.trans hb, h.ga, h.gb⟩
  rcases k.foot with e3 | ⟨q2, e3, hq⟩
  · exact h.n3 q (by rw [← e3]; exact e) e2
  · have := (World.ownsRow.lt h.bits.row q e2).2
    rw [e3] at e
    injection e with e
    omega
theorem SK.moveB {w w1 w2 : World} {ba bd : Nat} {va vy vy' : Value} {La : List Sp} {B B' : List Bool} (h : SK w ba bd va vy La B w1) (hT : Tab w) (k : Moves w1 w2 bd vy vy') (hs : BitsAt w2 bd vy' B') : SK w ba bd va vy' La B' w2 := by
  have hb : Below w.heap.size w1 w2 := k.below h.bel.size h.gb (fun q e => by have := (World.ownsRow.lt h.bits.row q e).1; have := h.gb; omega)
  refine ⟨h.set.other k h.ne h.n2 h.n1 h.n3, hs, h.ne, h.n1, k.not h.n2 h.set.room, fun q e e2 => ?_, h.tab.below hb hT.room, h.bel.trans hb, h.ga, h.gb⟩
  rcases k.foot with e3 | ⟨q2, e3, hq⟩
  · exact h.n3 q e (by rw [← e3]; exact e2)
  · have := (World.ownsRow.lt h.set.row q e).2
    rw [e3] at e2
    injection e2 with e2
    omega
theorem SK.new {w w2 : World} {ba : Nat} {va : Value} (T : TypeId) (hs : SetAt w2 ba va []) (ht : Tab w2) (hb : Below w.heap.size w w2) (hg : w.heap.size ≤ ba) : SK w ba w2.heap.size va (.slice none 0 0) [] [] (w2.alloc (.cells #[.slice none 0 0] T)) := by
  have ha := hs.room
  have hk := (Below.refl w2.heap.size w2).alloc (Nat.le_refl _) (.cells #[.slice none 0 0] T)
  refine ⟨hs.later hk, BitsAt.new _ _, by omega, fun e => ?_, fun e => (by cases e), fun q _ e => (by cases e), ht.next hk, bel_next hb hk, hg, hb.size⟩
  have := (World.ownsRow.lt hs.row _ e).2
  omega
/-- Held while both calls are run: the span. -/
structure SF (w : World) (ps : Nat) (s : Sp) (wr : World) : Prop where
  at_ : SpAt wr ps s
  bel : Below w.heap.size w wr
theorem SF.drew {w w1 : World} {ps : Nat} {s : Sp} (h : SF w ps s w1) : SF w ps s w1.drew := ⟨h.at_.below ((Below.refl _ _).drew), bel_next h.bel ((Below.refl _ _).drew)⟩
theorem setsBit {w : World} {b m c : Nat} {a : Option Addr} {B : List Bool} (h : BitsAt w b (.slice a m c) B) (hm : B.length = m) {n : Nat} (hn : n < m) : ∃ g, a = some ⟨g, 0, none⟩ ∧ w.cell? ⟨g, n, none⟩ = some (.bool (B.getD n false)) := by
  have hrow := h.row
  unfold BRow at hrow
  subst hm
  rcases hrow.2 with ⟨_, h0⟩ | ⟨g, cap, cur, h1, _⟩
  · omega
  · injection h1 with h2 h3 h4
    subst h2
    refine ⟨g, rfl, ?_⟩
    rw [h4] at hrow
    rw [World.ownsRow.cellAt hrow n (by omega), List.getElem?_map, List.getElem?_eq_getElem hn, List.getD_eq_getElem?_getD, List.getElem?_eq_getElem hn]; rfl
end Go.Proofs.YtdkenokjdiamhaaDoor

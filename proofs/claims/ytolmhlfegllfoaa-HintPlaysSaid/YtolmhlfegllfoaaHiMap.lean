/- A map whose keys are points with nodes. -/
import Derived.Test.YtolmhlfegllfoaaHiMath
import Derived.Maps.RangeWalk
import Derived.Maps.OwnSet
import Derived.DeepKeys5
set_option maxRecDepth 20000
set_option linter.unusedSimpArgs false
set_option linter.unusedVariables false
namespace Go.Proofs.Ytolmhlfegllfoaa.Qu.Hi
open Go.RowKit Go.Maps Go.Proofs.Ytolmhlfegllfoaa.Vi Go.Proofs.Ytolmhlfegllfoaa.Mk

abbrev TKK : TypeId := 66
abbrev TMM : TypeId := 59
def hkV (x : Hk) : Value := .agg #[.string x.p.s, .int .i64 x.p.t, .int .i64 x.p.v, .int .i64 x.p.st.c, .int .i64 x.p.st.s, .int .i64 x.p.st.q, .int .i64 x.n]
def cells7 (x : Hk) : List Value := [.string x.p.s, .int .i64 x.p.t, .int .i64 x.p.v, .int .i64 x.p.st.c, .int .i64 x.p.st.s, .int .i64 x.p.st.q, .int .i64 x.n]
def I64 (n : Int) : Prop := -9223372036854775808 ≤ n ∧ n ≤ 9223372036854775807
/-- A key that is read as one. -/
structure Hk.big (x : Hk) : Prop where
  s : x.p.s.size ≤ maxLen
  t : I64 x.p.t
  v : I64 x.p.v
  c : I64 x.p.st.c
  si : I64 x.p.st.s
  q : I64 x.p.st.q
  n : I64 x.n
theorem wf_i {n : Int} (h : I64 n) : (Lit.int .i64 n).wf = true := WalkArith.wf_i64 h
theorem i_wf {n : Int} (h : (Lit.int .i64 n).wf = true) : I64 n := by
  have := bounds_i64 h
  unfold I64
  omega
def lits (x : Hk) : List Lit := [.string x.p.s.data.toList, .int .i64 x.p.t, .int .i64 x.p.v, .int .i64 x.p.st.c, .int .i64 x.p.st.s, .int .i64 x.p.st.q, .int .i64 x.n]
def klit (x : Hk) : Lit := .string (keyBytes (lits x))
theorem hI : Try.prog.cellsOf 3 = 1 := by kernel_rfl
theorem hJ : Try.prog.cellsOf 2 = 1 := by kernel_rfl
theorem hT : Try.prog.cellsOf 9 = 1 := by kernel_rfl
theorem hS : Try.prog.cellsOf 29 = 3 := by kernel_rfl
theorem hP : Try.prog.cellsOf 31 = 6 := by kernel_rfl
theorem hK : Try.prog.cellsOf TKK = 7 := by kernel_rfl
theorem keyT : Try.prog.keyType TKK = true := by kernel_rfl
theorem typesN : ∃ n, Try.prog.types.size + 1 = n + 4 := ⟨Try.prog.types.size + 1 - 4, by
  have : 4 ≤ Try.prog.types.size + 1 := Nat.le_of_ble_eq_true (by kernel_rfl)
  omega⟩
theorem laidK : laidOutB Try.prog = true := by kernel_rfl
theorem klaw : Keyed Try.prog TKK := Keyed.of_law (deep_law_gate laidK (Nat.le_of_ble_eq_true (by kernel_rfl)) (Nat.le_of_ble_eq_true (by kernel_rfl)) keyT (by kernel_rfl))
theorem lit_string {d : Nat} {s : ByteArray} (h : s.size ≤ maxLen) : Try.prog.keyLits (d + 1) 9 [.string s] = some [.string s.data.toList] := by
  simp [Program.keyLits, Try.underlying9, h]
theorem lit_int {d : Nat} {n : Int} (h : I64 n) : Try.prog.keyLits (d + 1) 3 [.int .i64 n] = some [.int .i64 n] := by
  have := wf_i h
  simp [Program.keyLits, Try.underlying3, this]
theorem lit_int64 {d : Nat} {n : Int} (h : I64 n) : Try.prog.keyLits (d + 1) 2 [.int .i64 n] = some [.int .i64 n] := by
  have := wf_i h
  simp [Program.keyLits, Try.underlying2, this]
theorem lit_stamp {d : Nat} {c si q : Int} (h1 : I64 c) (h2 : I64 si) (h3 : I64 q) : Try.prog.keyLits (d + 2) 29 [.int .i64 c, .int .i64 si, .int .i64 q] = some [.int .i64 c, .int .i64 si, .int .i64 q] := by
  unfold Program.keyLits
  rw [Try.underlying29]
  simp only []
  rw [if_pos ⟨by rw [hS]; rfl, by kernel_rfl⟩]
  simp [hI, lit_int h1, lit_int h2, lit_int h3, List.mapM_cons]
theorem lit_point {d : Nat} {s : ByteArray} {t v c si q : Int} (h0 : s.size ≤ maxLen) (ht : I64 t) (hv : I64 v) (h1 : I64 c) (h2 : I64 si) (h3 : I64 q) : Try.prog.keyLits (d + 3) 31 [.string s, .int .i64 t, .int .i64 v, .int .i64 c, .int .i64 si, .int .i64 q] = some [.string s.data.toList, .int .i64 t, .int .i64 v, .int .i64 c, .int .i64 si, .int .i64 q] := by
  unfold Program.keyLits
  rw [Try.underlying31]
  simp only []
  rw [if_pos ⟨by rw [hP]; rfl, by kernel_rfl⟩]
  simp [hI, hJ, hT, hS, lit_string h0, lit_int ht, lit_int64 hv, lit_stamp h1 h2 h3, List.mapM_cons]
theorem key_is {x : Hk} (h : x.big) : keyOf Try.prog TKK (hkV x) = some (klit x) := by
  obtain ⟨n, hn⟩ := typesN
  have hf : (hkV x).formed Try.prog TKK = true := by
    simp [hkV, Value.formed, Try.underlying66, hK]
  have hl : Try.prog.keyLits (n + 4) TKK (hkV x).cells.toList = some (lits x) := by
    unfold Program.keyLits
    rw [Try.underlying66]
    simp only []
    rw [if_pos ⟨by rw [hK]; rfl, by kernel_rfl⟩]
    simp [hkV, Value.cells, hP, hI, lit_point h.s h.t h.v h.c h.si h.q, lit_int h.n, List.mapM_cons, lits]
  unfold keyOf
  rw [Try.underlying66]
  simp only [keyT, hf, Bool.and_self, if_true, hn, hl, Option.map_some, klit]
theorem inv_string {d : Nat} {c : Value} {l : List Lit} (h : Try.prog.keyLits (d + 1) 9 [c] = some l) : ∃ s : ByteArray, c = .string s ∧ s.size ≤ maxLen := by
  unfold Program.keyLits at h
  rw [Try.underlying9] at h
  cases c <;> simp at h
  rename_i s
  exact ⟨s, rfl, h.1⟩
theorem inv_int {d : Nat} {c : Value} {l : List Lit} (h : Try.prog.keyLits (d + 1) 3 [c] = some l) : ∃ n, c = .int .i64 n ∧ I64 n := by
  unfold Program.keyLits at h
  rw [Try.underlying3] at h
  cases c <;> simp at h
  obtain ⟨⟨rfl, h2⟩, -⟩ := h
  exact ⟨_, rfl, i_wf h2⟩
theorem inv_int64 {d : Nat} {c : Value} {l : List Lit} (h : Try.prog.keyLits (d + 1) 2 [c] = some l) : ∃ n, c = .int .i64 n ∧ I64 n := by
  unfold Program.keyLits at h
  rw [Try.underlying2] at h
  cases c <;> simp at h
  obtain ⟨⟨rfl, h2⟩, -⟩ := h
  exact ⟨_, rfl, i_wf h2⟩
theorem mapM_two {α β : Type} {f : α → Option β} {a b : α} {l : List β} (h : [a, b].mapM f = some l) : (∃ x, f a = some x) ∧ ∃ y, f b = some y := by
  simp [List.mapM_cons] at h
  cases h1 : f a <;> cases h2 : f b <;> simp_all
theorem mapM_three {α β : Type} {f : α → Option β} {a b c : α} {l : List β} (h : [a, b, c].mapM f = some l) : (∃ x, f a = some x) ∧ (∃ y, f b = some y) ∧ ∃ z, f c = some z := by
  simp [List.mapM_cons] at h
  cases h1 : f a <;> cases h2 : f b <;> cases h3 : f c <;> simp_all
theorem mapM_four {α β : Type} {f : α → Option β} {a b c d : α} {l : List β} (h : [a, b, c, d].mapM f = some l) : (∃ x, f a = some x) ∧ (∃ y, f b = some y) ∧ (∃ z, f c = some z) ∧ ∃ u, f d = some u := by
  simp [List.mapM_cons] at h
  cases h1 : f a <;> cases h2 : f b <;> cases h3 : f c <;> cases h4 : f d <;> simp_all
theorem inv_stamp {d : Nat} {c0 c1 c2 : Value} {l : List Lit} (h : Try.prog.keyLits (d + 2) 29 [c0, c1, c2] = some l) : ∃ c si q, c0 = .int .i64 c ∧ c1 = .int .i64 si ∧ c2 = .int .i64 q ∧ I64 c ∧ I64 si ∧ I64 q := by
  unfold Program.keyLits at h
  rw [Try.underlying29] at h
  simp only [] at h
  split at h
  · rw [Option.map_eq_some_iff] at h
    obtain ⟨l3, hl3, -⟩ := h
    obtain ⟨⟨y1, hy1⟩, ⟨y2, hy2⟩, ⟨y3, hy3⟩⟩ := mapM_three hl3
    simp only [hI, List.drop_zero, List.take_succ_cons, List.take_zero, List.drop_succ_cons] at hy1 hy2 hy3
    obtain ⟨c, e1, hc⟩ := inv_int hy1
    obtain ⟨si, e2, hsi⟩ := inv_int hy2
    obtain ⟨q, e3, hq⟩ := inv_int hy3
    exact ⟨c, si, q, e1, e2, e3, hc, hsi, hq⟩
  · cases h
theorem inv_point {d : Nat} {c0 c1 c2 c3 c4 c5 : Value} {l : List Lit} (h : Try.prog.keyLits (d + 3) 31 [c0, c1, c2, c3, c4, c5] = some l) : ∃ (s : ByteArray) (t v c si q : Int), c0 = .string s ∧ c1 = .int .i64 t ∧ c2 = .int .i64 v ∧ c3 = .int .i64 c ∧ c4 = .int .i64 si ∧ c5 = .int .i64 q ∧ s.size ≤ maxLen ∧ I64 t ∧ I64 v ∧ I64 c ∧ I64 si ∧ I64 q := by
  unfold Program.keyLits at h
  rw [Try.underlying31] at h
  simp only [] at h
  split at h
  · rw [Option.map_eq_some_iff] at h
    obtain ⟨l2, hl2, -⟩ := h
    obtain ⟨⟨x1, hx1⟩, ⟨x2, hx2⟩, ⟨x3, hx3⟩, ⟨x4, hx4⟩⟩ := mapM_four hl2
    simp only [hP, hI, hJ, hT, hS, List.drop_zero, List.take_succ_cons, List.take_zero, List.drop_succ_cons] at hx1 hx2 hx3 hx4
    obtain ⟨s, e1, hs⟩ := inv_string hx1
    obtain ⟨t, e2, ht⟩ := inv_int hx2
    obtain ⟨v, e3, hv⟩ := inv_int64 hx3
    obtain ⟨c, si, q, e4, e5, e6, hc, hsi, hq⟩ := inv_stamp hx4
    exact ⟨s, t, v, c, si, q, e1, e2, e3, e4, e5, e6, hs, ht, hv, hc, hsi, hq⟩
  · cases h
theorem inv_hint {d : Nat} {c0 c1 c2 c3 c4 c5 c6 : Value} {l : List Lit} (h : Try.prog.keyLits (d + 4) TKK [c0, c1, c2, c3, c4, c5, c6] = some l) : ∃ x : Hk, [c0, c1, c2, c3, c4, c5, c6] = cells7 x ∧ x.big := by
  unfold Program.keyLits at h
  rw [Try.underlying66] at h
  simp only [] at h
  split at h
  · rw [Option.map_eq_some_iff] at h
    obtain ⟨l1, hl1, -⟩ := h
    obtain ⟨⟨x, hx⟩, ⟨y, hy⟩⟩ := mapM_two hl1
    simp only [hP, hI, List.drop_zero, List.take_succ_cons, List.take_zero, List.drop_succ_cons] at hx hy
    obtain ⟨nn, e0, hnn⟩ := inv_int hy
    obtain ⟨s, t, v, c, si, q, e1, e2, e3, e4, e5, e6, hs, ht, hv, hc, hsi, hq⟩ := inv_point hx
    exact ⟨⟨⟨s, t, v, ⟨c, si, q⟩⟩, nn⟩, by rw [e0, e1, e2, e3, e4, e5, e6]; rfl, ⟨hs, ht, hv, hc, hsi, hq, hnn⟩⟩
  · cases h
theorem lits_len {d : Nat} {cs : List Value} {l : List Lit} (h : Try.prog.keyLits (d + 4) TKK cs = some l) : cs.length = 7 := by
  unfold Program.keyLits at h
  rw [Try.underlying66] at h
  simp only [] at h
  split at h
  · rename_i hh
    exact hh.1.trans hK
  · cases h
theorem key_inv {key : Value} {kl : Lit} (h : keyOf Try.prog TKK key = some kl) : ∃ x : Hk, key = hkV x ∧ x.big ∧ kl = klit x := by
  have h0 := h
  obtain ⟨xs, L, rfl, hl, rfl⟩ := keyOf_top (by rw [Try.underlying66]) h
  obtain ⟨n, hn⟩ := typesN
  rw [hn] at hl
  have hlen := lits_len hl
  match hxs : xs.toList, hlen with
  | [c0, c1, c2, c3, c4, c5, c6], _ =>
    rw [hxs] at hl
    obtain ⟨x, hx, hb⟩ := inv_hint hl
    have e : Value.agg xs = hkV x := by
      have : xs = (cells7 x).toArray := by rw [← hx, ← hxs]
      rw [this]; rfl
    refine ⟨x, e, hb, ?_⟩
    rw [e] at h0
    exact Option.some.inj (h0.symm.trans (key_is hb))
theorem hkV_inj {x y : Hk} (h : hkV x = hkV y) : x = y := by
  obtain ⟨⟨s1, t1, v1, ⟨c1, i1, q1⟩⟩, n1⟩ := x
  obtain ⟨⟨s2, t2, v2, ⟨c2, i2, q2⟩⟩, n2⟩ := y
  simp [hkV] at h
  obtain ⟨rfl, rfl, rfl, rfl, rfl, rfl, rfl⟩ := h
  rfl
theorem klit_inj {x y : Hk} (hx : x.big) (hy : y.big) (h : klit x = klit y) : x = y :=
  hkV_inj (klaw.inj (key_is hx) (h ▸ key_is hy))
theorem klit_same {x y : Hk} (hx : x.big) (hy : y.big) : (klit x).sameKey (klit y) = decide (x = y) := by
  by_cases e : x = y
  · subst e
    rw [decide_eq_true rfl]
    exact WideAt.sameKey_self (klaw.key (key_is hx))
  · rw [decide_eq_false e]
    exact Maps.sameKey_ne fun h => e (klit_inj hx hy h)
/-- What a map's datum has. -/
structure DIs (D : DataW Value) (L : List Hk) : Prop where
  has : ∀ x, x.big → Maps.has D (klit x) = hasB L x
  size : Maps.size D = L.length
  nodup : L.Nodup
theorem DIs.empty : DIs (.map []) [] := ⟨fun x _ => rfl, rfl, List.nodup_nil⟩
theorem DIs.put {D : DataW Value} {L : List Hk} (h : DIs D L) (hT : Tidy D) {x : Hk} (hx : x.big) (hn : x ∉ L) : DIs (D.put (klit x) (.agg [])) (L ++ [x]) := by
  have hk := klaw.key (key_is hx)
  refine ⟨fun y hy => ?_, ?_, ?_⟩
  · by_cases e : y = x
    · subst e
      rw [Maps.has_put_same hT.isMap hk]
      unfold hasB; simp
    · rw [Maps.has_put_other (fun k => e (klit_inj hy hx k)), h.has y hy]
      unfold hasB; simp [e]
  · rw [Maps.size_put hT, h.has x hx, h.size]
    unfold hasB
    simp [hn]
  · exact List.nodup_append.2 ⟨h.nodup, by simp, fun a ha b hb e => hn (by simp at hb; rw [← hb, ← e]; exact ha)⟩
theorem DIs.del {D : DataW Value} {L : List Hk} (h : DIs D L) (hT : Tidy D) {x : Hk} (hx : x.big) : DIs (D.del (klit x)) (L.filter fun y => !decide (y = x)) := by
  refine ⟨fun y hy => ?_, ?_, h.nodup.filter _⟩
  · by_cases e : y = x
    · subst e
      rw [Maps.has_del_same]
      unfold hasB; simp
    · rw [Maps.has_del_other (fun k => e (klit_inj hy hx k)), h.has y hy]
      unfold hasB; simp [e]
  · have h1 := Maps.size_del (k := klit x) hT
    rw [h.has x hx, h.size] at h1
    have h2 : (L.filter fun y => !decide (y = x)).length + (if hasB L x = true then 1 else 0) = L.length := by
      have h3 := h.nodup
      clear h h1
      induction L with
      | nil => simp [hasB]
      | cons a t ih =>
        obtain ⟨g1, g2⟩ := List.nodup_cons.1 h3
        have := ih g2
        rw [List.filter_cons]
        by_cases e : a = x
        · subst e
          have g3 : hasB t a = false := by unfold hasB; simpa using g1
          rw [g3] at this
          simp [hasB] at this ⊢
          exact this
        · have g4 : hasB (a :: t) x = hasB t x := by
            unfold hasB
            have : x ≠ a := fun k => e k.symm
            simp [this]
          rw [g4]
          simp [e]
          omega
    have h3 : (if hasB L x = true then 1 else 0) = (if hasB L x then 1 else 0) := rfl
    omega
/-- Which ones are still to come. -/
def LIs (left : Lit → Bool) (M : List Hk) : Prop := ∀ x, x.big → left (klit x) = hasB M x
theorem DIs.left {D : DataW Value} {L : List Hk} (h : DIs D L) : LIs (Maps.has D) L := h.has
theorem LIs.strike {left : Lit → Bool} {M : List Hk} (h : LIs left M) {x : Hk} (hx : x.big) : LIs (fun z => left z && !z.sameKey (klit x)) (M.filter fun y => !decide (y = x)) := fun y hy => by
  dsimp only
  rw [h y hy, klit_same hy hx]
  unfold hasB
  rw [Bool.eq_iff_iff]
  simp
theorem LIs.none {left : Lit → Bool} {M : List Hk} (h : LIs left M) (hM : ∀ x ∈ M, x.big) (h0 : ∀ kl, left kl = false) : M = [] := by
  cases M with
  | nil => rfl
  | cons a t =>
    have := h a (hM a (List.mem_cons_self ..))
    rw [h0] at this
    unfold hasB at this
    simp at this
theorem Hk.fine.big {x : Hk} (h : x.fine) : x.big := by
  obtain ⟨h1, h2, h3⟩ := h
  have hok : x.p.ok = true := by
    unfold Pt.err at h1
    cases e : x.p.ok with
    | true => rfl
    | false => rw [e] at h1; cases h1
  unfold Pt.ok at hok
  rw [Bool.and_eq_true] at hok
  have hst := St.ok_iff.1 hok.2
  obtain ⟨g1, g2⟩ := Bool.and_eq_true_iff.1 hok.1
  have g2 := of_decide_eq_true g2
  have g3 : x.p.s.size ≤ 40 := by
    refine Nat.le_of_not_lt fun k => ?_
    have := nameL_short (s := x.p.s.data.toList) (Or.inr (by simpa using k))
    unfold nameB at g1
    rw [this] at g1; cases g1
  have g4 := h2.v
  unfold maxLen at *
  refine ⟨by unfold maxLen; omega, ?_, g4, ?_, ?_, ?_, ?_⟩ <;> (unfold I64; omega)
/-- A map of a collection's. -/
structure MapAt (w : World) (m : Nat) (L : List Hk) : Prop where
  map : ∃ D : DataW Value, w.ownsMap Try.prog TKK unitElem m L.length D ∧ DIs D L
  good : Good L
end Go.Proofs.Ytolmhlfegllfoaa.Qu.Hi

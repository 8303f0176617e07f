/- A map whose keys are names (a site and a number) and whose values are records. -/
import Derived.Test.YthifmfgnblecbaaCbMath
import Derived.Test.YthifmfgnblecbaaOgOwn
import Derived.Maps.RangeWalk
import Derived.Maps.OwnSet
import Derived.DeepKeys5
set_option maxRecDepth 20000
set_option linter.unusedSimpArgs false
set_option linter.unusedVariables false
namespace Go.Proofs.Ythifmfgnblecbaa.Og.Cb
open Go.RowKit Go.Maps Go.Proofs.Ythifmfgnblecbaa.Vi Go.Proofs.Ythifmfgnblecbaa.Mk

abbrev TKK : TypeId := 61
abbrev TMM : TypeId := 53
def kV (s q : Int) : Value := .agg #[.int .i64 s, .int .i64 q]
def I64 (n : Int) : Prop := -9223372036854775808 ≤ n ∧ n ≤ 9223372036854775807
theorem wf_i {n : Int} (h : I64 n) : (Lit.int .i64 n).wf = true := WalkArith.wf_i64 h
theorem i_wf {n : Int} (h : (Lit.int .i64 n).wf = true) : I64 n := by
  have := bounds_i64 h
  unfold I64
  omega
def lits (s q : Int) : List Lit := [.int .i64 s, .int .i64 q]
def klit (s q : Int) : Lit := .string (keyBytes (lits s q))
theorem hI : Try.prog.cellsOf 3 = 1 := by kernel_rfl
theorem hK : Try.prog.cellsOf TKK = 2 := by kernel_rfl
theorem keyT : Try.prog.keyType TKK = true := by kernel_rfl
theorem typesN : ∃ n, Try.prog.types.size + 1 = n + 2 := ⟨Try.prog.types.size + 1 - 2, by
  have : 2 ≤ Try.prog.types.size + 1 := Nat.le_of_ble_eq_true (by kernel_rfl)
  omega⟩
theorem laidK : laidOutB Try.prog = true := by kernel_rfl
theorem klaw : Keyed Try.prog TKK := Keyed.of_law (deep_law_gate laidK (Nat.le_of_ble_eq_true (by kernel_rfl)) (Nat.le_of_ble_eq_true (by kernel_rfl)) keyT (by kernel_rfl))
theorem lit_int {d : Nat} {n : Int} (h : I64 n) : Try.prog.keyLits (d + 1) 3 [.int .i64 n] = some [.int .i64 n] := by
  have := wf_i h
  simp [Program.keyLits, Try.underlying3, this]
theorem key_is {s q : Int} (h1 : I64 s) (h2 : I64 q) : keyOf Try.prog TKK (kV s q) = some (klit s q) := by
  obtain ⟨n, hn⟩ := typesN
  have hf : (kV s q).formed Try.prog TKK = true := by
    simp [kV, Value.formed, Try.underlying61, hK]
  have hl : Try.prog.keyLits (n + 2) TKK (kV s q).cells.toList = some (lits s q) := by
    unfold Program.keyLits
    rw [Try.underlying61]
    simp only []
    rw [if_pos ⟨by rw [hK]; rfl, by kernel_rfl⟩]
    simp [kV, Value.cells, hI, lit_int h1, lit_int h2, List.mapM_cons, lits]
  unfold keyOf
  rw [Try.underlying61]
  simp only [keyT, hf, Bool.and_self, if_true, hn, hl, Option.map_some, klit]
theorem inv_int {d : Nat} {c : Value} {l : List Lit} (h : Try.prog.keyLits (d + 1) 3 [c] = some l) : ∃ n, c = .int .i64 n ∧ I64 n := by
  unfold Program.keyLits at h
  rw [Try.underlying3] at h
  cases c <;> simp at h
  obtain ⟨⟨rfl, h2⟩, -⟩ := h
  exact ⟨_, rfl, i_wf h2⟩
theorem mapM_two {α β : Type} {f : α → Option β} {a b : α} {l : List β} (h : [a, b].mapM f = some l) : (∃ x, f a = some x) ∧ ∃ y, f b = some y := by
  simp [List.mapM_cons] at h
  cases h1 : f a <;> cases h2 : f b <;> simp_all
theorem inv_name {d : Nat} {c0 c1 : Value} {l : List Lit} (h : Try.prog.keyLits (d + 2) TKK [c0, c1] = some l) : ∃ s q, c0 = .int .i64 s ∧ c1 = .int .i64 q ∧ I64 s ∧ I64 q := by
  unfold Program.keyLits at h
  rw [Try.underlying61] at h
  simp only [] at h
  split at h
  · rw [Option.map_eq_some_iff] at h
    obtain ⟨l2, hl2, -⟩ := h
    obtain ⟨⟨y1, hy1⟩, ⟨y2, hy2⟩⟩ := mapM_two hl2
    simp only [hI, List.drop_zero, List.take_succ_cons, List.take_zero, List.drop_succ_cons] at hy1 hy2
    obtain ⟨s, e1, hs⟩ := inv_int hy1
    obtain ⟨q, e2, hq⟩ := inv_int hy2
    exact ⟨s, q, e1, e2, hs, hq⟩
  · cases h
theorem lits_len {d : Nat} {cs : List Value} {l : List Lit} (h : Try.prog.keyLits (d + 2) TKK cs = some l) : cs.length = 2 := by
  unfold Program.keyLits at h
  rw [Try.underlying61] at h
  simp only [] at h
  split at h
  · rename_i hh
    exact hh.1.trans hK
  · cases h
theorem key_inv {key : Value} {kl : Lit} (h : keyOf Try.prog TKK key = some kl) : ∃ s q, key = kV s q ∧ I64 s ∧ I64 q ∧ kl = klit s q := by
  have h0 := h
  obtain ⟨xs, L, rfl, hl, rfl⟩ := keyOf_top (by rw [Try.underlying61]) h
  obtain ⟨n, hn⟩ := typesN
  rw [hn] at hl
  have hlen := lits_len hl
  match hxs : xs.toList, hlen with
  | [c0, c1], _ =>
    rw [hxs] at hl
    obtain ⟨s, q, rfl, rfl, hs, hq⟩ := inv_name hl
    have e : Value.agg xs = kV s q := by
      have : xs = #[.int .i64 s, .int .i64 q] := by rw [← Array.toArray_toList (xs := xs), hxs]
      rw [this]; rfl
    refine ⟨s, q, e, hs, hq, ?_⟩
    rw [e] at h0
    exact Option.some.inj (h0.symm.trans (key_is hs hq))
theorem kV_inj {s q s' q' : Int} (h : kV s q = kV s' q') : s = s' ∧ q = q' := by
  simp [kV] at h
  exact h
theorem klit_inj {s q s' q' : Int} (h1 : I64 s) (h2 : I64 q) (h3 : I64 s') (h4 : I64 q') (h : klit s q = klit s' q') : s = s' ∧ q = q' :=
  kV_inj (klaw.inj (key_is h1 h2) (h ▸ key_is h3 h4))
theorem klit_same {s q s' q' : Int} (h1 : I64 s) (h2 : I64 q) (h3 : I64 s') (h4 : I64 q') : (klit s q).sameKey (klit s' q') = decide (s = s' ∧ q = q') := by
  by_cases e : s = s' ∧ q = q'
  · obtain ⟨rfl, rfl⟩ := e
    rw [decide_eq_true ⟨rfl, rfl⟩]
    exact WideAt.sameKey_self (klaw.key (key_is h1 h2))
  · rw [decide_eq_false e]
    exact Maps.sameKey_ne fun h => e (klit_inj h1 h2 h3 h4 h)
abbrev slR (v : Value) : Option (DataW Value × List MemPlace) := some (.held v, [])
abbrev ZR : Value := .agg #[.int .i64 0, .string ⟨#[]⟩, .int .i64 0, .int .i64 0, .int .i64 0, .int .i64 0, .int .i64 0, .int .i64 0, .slice none 0 0]
abbrev NILR : DataW Value := .held ZR
theorem recZ : ZR = recV Rec.zero (.slice none 0 0) := rfl
/-- What a map's datum has, and how its records' numbers stand in memory: in none of the blocks P. -/
structure DIs (w : World) (P : Nat → Prop) (D : DataW Value) (L : List Rec) : Prop where
  has : ∀ s q, I64 s → I64 q → Maps.has D (klit s q) = hasB L s q
  at_ : ∀ r ∈ L, ∃ x : Rd, x.r = r ∧ D.atKey (klit r.st.s r.st.q) NILR = .held (recV r x.dv) ∧ Ns w x.dv r.d ∧ (r.d ≠ [] → ∀ q, x.dv.ownBlock = some q → P q)
  size : Maps.size D = L.length
theorem Ns.off {w w' : World} {v : Value} {l : List Int} (h : Ns w v l) (hs : w.heap.size ≤ w'.heap.size) (k : l ≠ [] → ∀ q, v.ownBlock = some q → q < w.heap.size → w'.heap[q]? = w.heap[q]?) : Ns w' v l := by
  by_cases e : l = []
  · obtain ⟨⟨a, c, h1, _⟩, h2, h3, h4⟩ := h
    exact ⟨⟨a, c, h1, Or.inl e⟩, h2, h3, Nat.le_refl _⟩
  · exact Ns.other h hs (k e)
theorem DIs.keep {w w' : World} {P P' : Nat → Prop} {D : DataW Value} {L : List Rec} (h : DIs w P D L) (hs : w.heap.size ≤ w'.heap.size) (k : ∀ q, P q → q < w.heap.size → w'.heap[q]? = w.heap[q]?) (hP : ∀ q, P q → P' q) : DIs w' P' D L :=
  ⟨h.has, fun r hr => by
    obtain ⟨x, h1, h2, h3, h4⟩ := h.at_ r hr
    exact ⟨x, h1, h2, Ns.off h3 hs fun hd q hq hl => k q (h4 hd q hq) hl, fun hd q hq => hP q (h4 hd q hq)⟩, h.size⟩
theorem DIs.empty (w : World) (P : Nat → Prop) : DIs w P (.map []) [] := ⟨fun s q _ _ => rfl, fun r hr => (by cases hr), rfl⟩
theorem has_snoc (L : List Rec) (r : Rec) (s q : Int) : hasB (L ++ [r]) s q = (hasB L s q || decide (r.st.s = s ∧ r.st.q = q)) := by
  rw [Bool.eq_iff_iff, Bool.or_eq_true, hasB_iff, hasB_iff, decide_eq_true_eq]
  constructor
  · rintro ⟨x, hx, h⟩
    rcases List.mem_append.1 hx with hx | hx
    · exact Or.inl ⟨x, hx, h⟩
    · rw [List.mem_singleton] at hx; subst hx; exact Or.inr h
  · rintro (⟨x, hx, h⟩ | h)
    · exact ⟨x, List.mem_append_left _ hx, h⟩
    · exact ⟨r, List.mem_append_right _ (List.mem_singleton.2 rfl), h⟩
theorem has_del (L : List Rec) (s q s' q' : Int) : hasB (delL L s q) s' q' = (hasB L s' q' && !decide (s' = s ∧ q' = q)) := by
  rw [Bool.eq_iff_iff, Bool.and_eq_true, hasB_iff, hasB_iff, Bool.not_eq_true', decide_eq_false_iff_not]
  constructor
  · rintro ⟨x, hx, rfl, rfl⟩
    exact ⟨⟨x, (delL_mem.1 hx).1, rfl, rfl⟩, (delL_mem.1 hx).2⟩
  · rintro ⟨⟨x, hx, rfl, rfl⟩, h⟩
    exact ⟨x, delL_mem.2 ⟨hx, h⟩, rfl, rfl⟩
theorem okI {r : Rec} (h : r.ok = true) : I64 r.st.s ∧ I64 r.st.q := by
  have := Rec.ok_parts h
  unfold I64
  omega
theorem DIs.put {w : World} {P : Nat → Prop} {D : DataW Value} {L : List Rec} (h : DIs w P D L) (hT : Tidy D) (hok : ∀ r ∈ L, r.ok = true) (x : Rd) (hx : x.r.ok = true) (hn : hasB L x.r.st.s x.r.st.q = false) (hN : Ns w x.dv x.r.d) (hP : x.r.d ≠ [] → ∀ q, x.dv.ownBlock = some q → P q) : DIs w P (D.put (klit x.r.st.s x.r.st.q) (.held (recV x.r x.dv))) (L ++ [x.r]) := by
  obtain ⟨i1, i2⟩ := okI hx
  have hk := klaw.key (key_is i1 i2)
  refine ⟨fun s q hs hq => ?_, fun r hr => ?_, ?_⟩
  · rw [has_snoc]
    by_cases e : s = x.r.st.s ∧ q = x.r.st.q
    · obtain ⟨rfl, rfl⟩ := e
      rw [Maps.has_put_same hT.isMap hk]
      simp
    · rw [Maps.has_put_other (fun k => e (klit_inj hs hq i1 i2 k)), h.has s q hs hq, decide_eq_false (fun k => e ⟨k.1.symm, k.2.symm⟩), Bool.or_false]
  · rcases List.mem_append.1 hr with hr | hr
    · obtain ⟨z, h1, h2, h3, h4⟩ := h.at_ r hr
      obtain ⟨j1, j2⟩ := okI (hok r hr)
      exact ⟨z, h1, by rw [Maps.atKey_put_other (fun k => hasB_no.1 hn r hr (klit_inj j1 j2 i1 i2 k))]; exact h2, h3, h4⟩
    · rw [List.mem_singleton] at hr
      subst hr
      exact ⟨x, rfl, Maps.atKey_put_same hT.isMap hk _ _, hN, hP⟩
  · rw [Maps.size_put hT, h.has _ _ i1 i2, hn, h.size]
    simp
theorem DIs.del {w : World} {P : Nat → Prop} {D : DataW Value} {L : List Rec} (h : DIs w P D L) (hT : Tidy D) (hA : Apart L) (hok : ∀ r ∈ L, r.ok = true) {r : Rec} (hr : r ∈ L) : DIs w P (D.del (klit r.st.s r.st.q)) (delL L r.st.s r.st.q) := by
  obtain ⟨i1, i2⟩ := okI (hok r hr)
  refine ⟨fun s q hs hq => ?_, fun z hz => ?_, ?_⟩
  · rw [has_del]
    by_cases e : s = r.st.s ∧ q = r.st.q
    · obtain ⟨rfl, rfl⟩ := e
      rw [Maps.has_del_same]
      simp
    · rw [Maps.has_del_other (fun k => e (klit_inj hs hq i1 i2 k)), h.has s q hs hq, decide_eq_false e]
      simp
  · obtain ⟨h1, h2⟩ := delL_mem.1 hz
    obtain ⟨x, g1, g2, g3, g4⟩ := h.at_ z h1
    obtain ⟨j1, j2⟩ := okI (hok z h1)
    exact ⟨x, g1, by rw [Maps.atKey_del_other (fun k => h2 (klit_inj j1 j2 i1 i2 k))]; exact g2, g3, g4⟩
  · have h1 := Maps.size_del (k := klit r.st.s r.st.q) hT
    rw [h.has _ _ i1 i2, h.size, hasB_iff.2 ⟨r, hr, rfl, rfl⟩] at h1
    have h2 := delL_len hA hr
    simp only [if_true] at h1
    omega
end Go.Proofs.Ythifmfgnblecbaa.Og.Cb

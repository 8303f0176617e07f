/- A folder's names in order; maps.Clone and maps.Copy at folders. -/
import Derived.Test.YteijmjbiaffcmaaGreatDoorFilesLay
import Derived.Test.YteijmjbiaffcmaaGreatDoorFilesMath
import Derived.Lib.Hide
set_option maxRecDepth 20000
set_option linter.unusedSimpArgs false
namespace Go.Proofs.YteijmjbiaffcmaaGreatDoor.Fi
open Go.RowKit Go.Maps Go.Sort Go.Shelf

theorem law : Keyed Tryz.prog 9 := string_keyed Tryz.underlying9
/-- How a pointer to a file reads: as its block's number. -/
def ptrR : Value → Option (DataW Unit × List MemPlace)
  | .pointer none => some (.lit (.int .i64 (-1)), [])
  | .pointer (some ⟨q, 0, none⟩) => some (.lit (.int .i64 (q : Int)), [])
  | _ => none
theorem ptrR_inv {v : Value} {y : DataW Unit × List MemPlace} (h : ptrR v = some y) : (v = .pointer none ∧ y = (.lit (.int .i64 (-1)), [])) ∨ ∃ q : Nat, v = .pointer (some ⟨q, 0, none⟩) ∧ y = (.lit (.int .i64 (q : Int)), []) := by
  unfold ptrR at h
  split at h
  · simp at h; exact Or.inl ⟨rfl, h.symm⟩
  · simp at h; exact Or.inr ⟨_, rfl, h.symm⟩
  · cases h
/-- Block b of w is the folder M. -/
def MapIs (w : World) (b : Nat) (M : FM) : Prop := w.ownsMap Tryz.prog 9 ptrR b M.length (dOf M)
theorem MapIs.of {w : World} {b n : Nat} {M : FM} (h : w.ownsMap Tryz.prog 9 ptrR b n (dOf M)) : MapIs w b M := by
  obtain ⟨es, clock, hb, F, hs, hD⟩ := h
  refine ⟨es, clock, hb, F, ?_, hD⟩
  have := congrArg Maps.size hD
  rw [dOf_size] at this
  have e : Maps.size (DataW.map ((es.toList.map (WideElems.rg Tryz.prog 9 ptrR)).foldr DataW.insert [])) = es.size := length_read es
  rw [e] at this
  omega
theorem MapIs.lt {w : World} {b : Nat} {M : FM} (h : MapIs w b M) : b < w.heap.size := World.ownsMap.lt h
theorem MapIs.of_heap {w w' : World} {b : Nat} {M : FM} (h : MapIs w b M) (e : w'.heap[b]? = w.heap[b]?) : MapIs w' b M := by
  obtain ⟨es, clock, hb, F, hs, hD⟩ := h
  exact ⟨es, clock, e.trans hb, F, hs, hD⟩
theorem sortsF (m : Nat) : AnyZ.SortsIn Tryz.prog sortedF_ren Fence.wide m :=
  ⟨fun blk off cap ss W hH hblk hsz => callsIn_wide.2 (AnyM.slices_Sort_string sortF blk off cap ss W hH hblk hsz),
   fun p cap W => callsIn_wide.2 (AnyM.slices_Sort_string_none sortF p cap W)⟩
/-- v is a slice of texts that the call has made above B. -/
def NRow (w : World) (B : Nat) (v : Value) (l : List Nm) : Prop := w.ownsRow B 9 1 v l.length (l.map encStr)
def bbLe (a b : Nm) : Bool := decide (a ≤ b)
set_option maxHeartbeats 1000000 in
theorem names0_is (b : Nat) (M : FM) (w : World) (hown : MapIs w b M) (hM : M.length ≤ 1000) :
    Calls Tryz.prog 61 #[.map (some b)] w fun e w' => ∃ (v : Value) (ss : List Nm), e = .returned v ∧ ss.Perm (M.map (·.1)) ∧ w'.ownsRow w.heap.size 9 1 v ss.length ((ss.mergeSort leB).map encStr) ∧ (v = .slice none 0 0 ↔ ss = []) ∧ Below w.heap.size w w' := by
  refine (callsIn_wide (n := 6)).1 ?_
  have hbl := hown.lt
  have hseq : SeqGives Fence.wide 2 Tryz.prog 117 #[.pointer (some ⟨w.heap.size, 0, none⟩)] encStr (fun ss => ss.Perm (strKeys (dOf M))) (Maps.size (dOf M)) (w.alloc (.cells #[.map (some b)] 76)) :=
    AnyZ.keys_gives (ρ := keysF_ren) { keysF with } Fence.wide _ trivial rfl (by omega) w.heap.size b M.length (dOf M) _ (by simp) (by simp) (by
      obtain ⟨es, clock, hb, Ft, hs, hD⟩ := hown
      exact ⟨es, clock, (Below.heap_alloc _ _ b hbl).trans hb, Ft, hs, hD⟩)
  have cK : ∀ mb W, CallsIn Fence.wide 5 Tryz.prog 95 #[.map mb] W fun e w' => e = .returned (.func (.func 117) #[] #[.pointer (some ⟨W.heap.size, 0, none⟩)]) ∧ w' = W.alloc (.cells #[.map mb] 76) := fun mb W => AnyZ.keys_in keysF Fence.wide 5 trivial rfl mb W
  have cS := AnyZ.sorted_in sortedF Fence.wide 5 trivial trivial trivial trivial rfl (by omega) (sortsF _) (enters_of Tryz.func116 (by kernel_rfl) rfl) 117 #[.pointer (some ⟨w.heap.size, 0, none⟩)] trivial (enters_of Tryz.func117 (by kernel_rfl) rfl) _ _ (by rw [dOf_size]; unfold maxLen; omega) (by rw [dOf_size]; omega) _ hseq
  change CallsIn _ _ Tryz.prog 94 _ _ _ at cS
  have hfK : Fence.wide.fn 95 := trivial
  have hfS : Fence.wide.fn 94 := trivial
  refine callsIn_of_wp Tryz.func61 rfl trivial ?_ rfl
  simp only [Tryz.ntmps61, List.size_toArray, List.length_cons, List.length_nil, Nat.reduceAdd, Nat.reduceSub, Array.replicate_succ, Array.replicate_zero, List.push_toArray, List.append_toArray, List.nil_append, List.cons_append]
  gi_wp2_with (first
    | (gi_at_call 95; refine (cK _ _).mono ?_; rintro e w' ⟨rfl, rfl⟩)
    | (gi_at_call 94; refine cS.mono ?_; rintro e w' ⟨v, ss, rfl, hS, hrow, hnil, hb⟩))
  go_ret
  exact ⟨v, ss, rfl, by rw [dOf_keys] at hS; exact hS, ownsRow_base_a hrow (by simp), hnil, ((Below.refl _ w).alloc (Nat.le_refl _) _).trans (hb.mono (by simp))⟩
theorem bb_le {a b : Nm} (h : bytesBefore a b = true) : a ≤ b := by
  have key : ∀ {a b : Nm}, bytesBefore b a = true → b < a := by
    intro a
    induction a with
    | nil => intro b h; cases b <;> simp [bytesBefore] at h
    | cons x a ih =>
      intro b h
      cases b with
      | nil => exact List.nil_lt_cons x a
      | cons y b =>
        simp only [bytesBefore, Bool.or_eq_true, Bool.and_eq_true, decide_eq_true_eq, beq_iff_eq] at h
        rw [List.cons_lt_cons_iff]
        rcases h with h | ⟨h1, h2⟩
        · exact Or.inl h
        · exact Or.inr ⟨h1, ih h2⟩
  exact List.le_of_lt (key h)
theorem keys_sorted {M : FM} (h : Srt M) {ss : List Nm} (hp : ss.Perm (M.map (·.1))) : ss.mergeSort leB = M.map (·.1) := by
  rw [mergeSort_of_perm hp]
  refine List.mergeSort_of_pairwise ?_
  refine List.pairwise_map.2 (h.imp fun h => ?_)
  exact decide_eq_true (bb_le h)
/-- What names gives. -/
def NDone (l : List Nm) (w : World) (e : Ending) (w' : World) : Prop := ∃ v, e = .returned v ∧ NRow w' w.heap.size v l ∧ Below w.heap.size w w'
theorem names_is (b : Nat) (M : FM) (w : World) (hown : MapIs w b M) (hs : Srt M) (hM : M.length ≤ 1000) : Calls Tryz.prog 61 #[.map (some b)] w (NDone (M.map (·.1)) w) := by
  refine (names0_is b M w hown hM).mono ?_
  rintro e w' ⟨v, ss, rfl, hp, hr, -, hb⟩
  rw [keys_sorted hs hp, hp.length_eq] at hr
  exact ⟨v, rfl, hr, hb⟩
theorem put_end {A : FM} {n : Nm} {q : Nat} (h : ∀ p ∈ A, bytesBefore p.1 n = true) : putM n q A = A ++ [(n, q)] := by
  unfold putM
  rw [show delM n A = A from List.filter_eq_self.2 fun p hp => by simpa using bb_ne (h p hp)]
  induction A with
  | nil => rfl
  | cons y t ih =>
    have hy := h y List.mem_cons_self
    unfold insM
    rw [if_neg, ih fun p hp => h p (List.mem_cons_of_mem _ hp)]; rfl
    intro c
    have := bb_trans c hy
    rw [bb_irrefl] at this; cases this
theorem merge_from : ∀ (M A : FM), Srt (A ++ M) → (M.map ent).foldl (fun D p => DataW.put D p.1 p.2) (dOf A) = dOf (A ++ M)
  | [], A, _ => by rw [List.append_nil]; rfl
  | x :: t, A, h => by
    have h1 : ∀ p ∈ A, bytesBefore p.1 x.1 = true := fun p hp => (List.pairwise_append.1 h).2.2 p hp x List.mem_cons_self
    show (t.map ent).foldl _ ((dOf A).put (.string x.1) (.lit (.int .i64 (x.2 : Int)))) = _
    rw [dOf_put, put_end h1, merge_from t (A ++ [(x.1, x.2)]) (by rw [List.append_assoc]; exact h), List.append_assoc]; rfl
theorem merge_all {M : FM} (h : Srt M) : Lib.mergeD (dOf []) (dOf M) = dOf M := merge_from M [] h
/-- A folder that is read: none, or one. -/
def SrcIs (w : World) (p : Option Nat) (M : FM) : Prop := (p = none ∧ M = []) ∨ ∃ b, p = some b ∧ MapIs w b M
theorem copy_is (bd : Nat) (ps : Option Nat) (M : FM) (w : World) (hd : MapIs w bd []) (hs : SrcIs w ps M) (hne : ps ≠ some bd) (hS : Srt M) (hM : M.length ≤ 1000) :
    Calls Tryz.prog 63 #[.map (some bd), .map ps] w fun e w' => e = .returned (.tuple #[]) ∧ MapIs w' bd M ∧ w.grownBy w' (some bd) := by
  have hs2 : ∃ D, SrcOf Tryz.prog 9 ptrR w ps D ∧ Maps.size D ≤ 1000 ∧ Lib.mergeD (dOf []) D = dOf M := by
    rcases hs with ⟨rfl, rfl⟩ | ⟨b, rfl, h⟩
    · exact ⟨.nil, Or.inl ⟨rfl, rfl⟩, Nat.zero_le _, rfl⟩
    · exact ⟨dOf M, Or.inr ⟨b, _, rfl, h⟩, by rw [dOf_size]; exact hM, merge_all hS⟩
  obtain ⟨D, h1, h2, h3⟩ := hs2
  refine (AnyX.maps_Copy_opt copyF law ptrR bd 0 ps (dOf []) D w hd h1 hne (by unfold maxLen; omega)).mono ?_
  rintro e w' ⟨he, ho, hg⟩
  rw [h3] at ho
  exact ⟨he, MapIs.of ho, hg⟩
theorem clone_is (b : Nat) (M : FM) (w : World) (h : MapIs w b M) : Calls Tryz.prog 96 #[.map (some b)] w fun e w' => e = .returned (.map (some w.heap.size)) ∧ MapIs w' w.heap.size M ∧ Below w.heap.size w w' ∧ w'.heap.size = w.heap.size + 1 := by
  obtain ⟨es, clock, hb, F, hs, hD⟩ := h
  refine (AnyW.maps_Clone cloneF b es clock w hb).mono ?_
  rintro e w' ⟨he, rfl⟩
  exact ⟨he, ⟨es, clock, heap_alloc_new w _, F, hs, hD⟩, (Below.refl _ w).alloc (Nat.le_refl _) _, by simp⟩
end Go.Proofs.YteijmjbiaffcmaaGreatDoor.Fi

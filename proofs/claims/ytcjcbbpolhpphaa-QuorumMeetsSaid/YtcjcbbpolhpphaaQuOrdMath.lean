/- QuorumOrder's mathematics: lists with stamps of their own; whoever answers first. -/
import Derived.Test.YtcjcbbpolhpphaaQuorumReadsWalk
import Derived.Test.YtcjcbbpolhpphaaBlockLaterMath
set_option maxRecDepth 20000
set_option linter.unusedSimpArgs false
set_option linter.unusedVariables false
namespace Go.Proofs.Ytcjcbbpolhpphaa.Qu
open Go.RowKit Go.Proofs.Ytcjcbbpolhpphaa.Vi

theorem flat6_set (p : Pt) (q : Int) : ∀ (l : List Pt) (k : Nat) (hk : k < l.length), l[k] = p → (l.flatMap cells6).set (k * 6 + 5) (.int .i64 q) = (l.set k ⟨p.s, p.t, p.v, ⟨p.st.c, p.st.s, q⟩⟩).flatMap cells6 := fun l => by
  induction l with
  | nil => intro k hk; simp at hk
  | cons a t ih =>
    intro k hk e
    cases k with
    | zero =>
      simp only [List.getElem_cons_zero] at e
      subst e
      simp [cells6]
    | succ k =>
      simp only [List.getElem_cons_succ] at e
      have := ih k (by simpa using hk) e
      rw [List.set_cons_succ, List.flatMap_cons, List.flatMap_cons, ← this, show (k + 1) * 6 + 5 = (cells6 a).length + (k * 6 + 5) by simp [cells6]; omega, List.set_append_right _ _ (by omega)]
      congr 1
      simp
theorem prow_set {w : World} {B g n c k : Nat} {xs : List Pt} {p : Pt} {q : Int} (h : PRow w B (.slice (some ⟨g, 0, none⟩) n c) xs) (hk : k < xs.length) (e : xs[k] = p) : PRow (w.setCell ⟨g, k * 6 + 5, none⟩ (.int .i64 q)) B (.slice (some ⟨g, 0, none⟩) n c) (xs.set k ⟨p.s, p.t, p.v, ⟨p.st.c, p.st.s, q⟩⟩) := by
  obtain ⟨a, c', e2⟩ := PRow.slice h
  injection e2 with e3 e4 e5
  subst e4
  have := (World.ownsRow.stored h (k * 6 + 5) (.int .i64 q)).1
  unfold PRow
  rw [flat6_set p q xs k hk e] at this
  rw [List.length_set]
  exact this
/-- The list once k of its points have their number. -/
def sqK (i : Nat) (l : List Pt) (k : Nat) : List Pt := l.mapIdx fun j p => if j < k then p.seq (10 * i + j) else p
def seqI (i : Nat) (l : List Pt) : List Pt := l.mapIdx fun j p => p.seq (10 * i + j)
theorem sqK_len (i : Nat) (l : List Pt) (k : Nat) : (sqK i l k).length = l.length := by unfold sqK; simp
theorem seqI_len (i : Nat) (l : List Pt) : (seqI i l).length = l.length := by unfold seqI; simp
theorem sqK_get {i k j : Nat} {l : List Pt} (h : j < (sqK i l k).length) : (sqK i l k)[j] = if j < k then (l[j]'(by rw [sqK_len] at h; exact h)).seq (10 * i + j) else l[j]'(by rw [sqK_len] at h; exact h) :=
  List.getElem_mapIdx (l := l) (f := fun j p => if j < k then p.seq (10 * i + j) else p) (i := j) (h := h)
theorem seqI_get {i j : Nat} {l : List Pt} (h : j < (seqI i l).length) : (seqI i l)[j] = (l[j]'(by rw [seqI_len] at h; exact h)).seq (10 * i + j) :=
  List.getElem_mapIdx (l := l) (f := fun j p => p.seq (10 * i + j)) (i := j) (h := h)
theorem sqK_zero (i : Nat) (l : List Pt) : sqK i l 0 = l := by
  refine List.ext_getElem (sqK_len i l 0) fun j h1 h2 => ?_
  rw [sqK_get, if_neg (Nat.not_lt_zero _)]
theorem sqK_all (i : Nat) (l : List Pt) : sqK i l l.length = seqI i l := by
  refine List.ext_getElem (by rw [sqK_len, seqI_len]) fun j h1 h2 => ?_
  rw [sqK_get, seqI_get, if_pos (by rw [sqK_len] at h1; exact h1)]
theorem sqK_at {i : Nat} {l : List Pt} {k : Nat} (h : k < l.length) : (sqK i l k)[k]'(by rw [sqK_len]; exact h) = l[k] := by
  rw [sqK_get, if_neg (Nat.lt_irrefl _)]
theorem sqK_step {i : Nat} {l : List Pt} {k : Nat} (h : k < l.length) {p : Pt} (e : l[k] = p) : (sqK i l k).set k ⟨p.s, p.t, p.v, ⟨p.st.c, p.st.s, ((10 * i + k : Nat) : Int)⟩⟩ = sqK i l (k + 1) := by
  refine List.ext_getElem (by rw [List.length_set, sqK_len, sqK_len]) fun j h1 h2 => ?_
  rw [List.getElem_set]
  have hj : j < l.length := by rw [sqK_len] at h2; exact h2
  by_cases hjk : k = j
  · subst hjk
    rw [if_pos rfl]
    rw [sqK_get, if_pos (Nat.lt_succ_self _), e]
    rfl
  · rw [if_neg hjk]
    rw [sqK_get, sqK_get]
    by_cases hlt : j < k
    · rw [if_pos hlt, if_pos (by omega)]
    · rw [if_neg hlt, if_neg (by omega)]
/-- What the node i is handed. -/
def gotL (reps : List RepI) (i : Nat) : List Pt := if h : i < reps.length then seqI i (ptsB reps[i].ps) else []
theorem gotL_len (reps : List RepI) (i : Nat) : (gotL reps i).length ≤ 10 := by
  unfold gotL
  split
  · rw [seqI_len]; exact ptsB_len _
  · simp
theorem gotL_mem {reps : List RepI} {i : Nat} {x : Pt} (h : x ∈ gotL reps i) : ∃ k, k < 10 ∧ x.st.q = ((10 * i + k : Nat) : Int) ∧ ∃ hk : k < (gotL reps i).length, (gotL reps i)[k] = x := by
  obtain ⟨k, hk, rfl⟩ := List.getElem_of_mem h
  have h10 := gotL_len reps i
  refine ⟨k, by omega, ?_, hk, rfl⟩
  unfold gotL
  split
  · rw [seqI_get]
    rfl
  · rename_i hn
    unfold gotL at hk
    rw [dif_neg hn] at hk
    simp at hk
theorem gotL_apart {reps : List RepI} {i j : Nat} {x y : Pt} (hx : x ∈ gotL reps i) (hy : y ∈ gotL reps j) (h : x.st = y.st) : x = y := by
  obtain ⟨k, hk, hq, hk1, e1⟩ := gotL_mem hx
  obtain ⟨k', hk', hq', hk2, e2⟩ := gotL_mem hy
  rw [h, hq'] at hq
  have h1 : 10 * j + k' = 10 * i + k := by omega
  obtain rfl : i = j := by omega
  obtain rfl : k = k' := by omega
  rw [← e1, ← e2]
theorem gotL_short {reps : List RepI} {i : Nat} {x : Pt} (h : x ∈ gotL reps i) : x.s.size ≤ 60 := by
  unfold gotL at h
  split at h
  · obtain ⟨j, hj, rfl⟩ := List.getElem_of_mem h
    rw [seqI_get]
    have hj2 : j < (ptsB reps[i].ps).length := by rw [seqI_len] at hj; exact hj
    show ((ptsB reps[i].ps)[j]).s.size ≤ 60
    exact ptsB_short (List.getElem_mem hj2)
  · cases h
/-- The one read behind j answers. -/
def inB (a b : Nat) (i : Int) : Bool := decide ((a : Int) ≤ i ∧ i < (b : Int))
def rdO (nd : Int → Bool) (G : Nat → List Pt) (a b k : Nat) : RS := ⟨⟨1, nd, inB a b⟩, fun i => if inB a b i = true then srtR (G i.toNat) else [], k⟩
theorem rdO_hear {nd : Int → Bool} {G : Nat → List Pt} {a b k j : Nat} (hj : j < 8) (hn : ∀ i : Nat, i < 8 → nd (i : Int) = true) (hno : j < a ∨ b ≤ j) : hearB (rdO nd G a b k).S (j : Int) = true := by
  unfold hearB hasB nodeB rdO inB
  simp only [hn j hj]
  rw [decide_eq_true (show (0 : Int) ≤ (j : Int) by omega), decide_eq_true (show (j : Int) < 16 by omega), decide_eq_false (show ¬ ((a : Int) ≤ (j : Int) ∧ (j : Int) < (b : Int)) by omega)]
  rfl
theorem rdO_up {nd : Int → Bool} {G : Nat → List Pt} {k j : Nat} (hj : j < 8) (hn : ∀ i : Nat, i < 8 → nd (i : Int) = true) : ansS (rdO nd G 0 j k) (j : Int) (G j) = rdO nd G 0 (j + 1) (k + 1) := by
  have hh := rdO_hear (G := G) (a := 0) (b := j) (k := k) hj hn (Or.inr (Nat.le_refl _))
  unfold ansS
  rw [if_pos hh, hear_yes hh]
  unfold rdO
  congr 1
  · congr 1
    funext i
    unfold updB inB
    dsimp only
    by_cases e : i = (j : Int)
    · rw [if_pos e, decide_eq_true (by omega)]
    · rw [if_neg e]
      by_cases e2 : ((0 : Nat) : Int) ≤ i ∧ i < (j : Int)
      · rw [decide_eq_true e2, decide_eq_true (by omega)]
      · rw [decide_eq_false e2, decide_eq_false (by omega)]
  · funext i
    dsimp only
    by_cases e : i = (j : Int)
    · rw [if_pos e, if_pos (by unfold inB; rw [decide_eq_true (by omega)]), show i.toNat = j by omega]
    · rw [if_neg e]
      have : inB 0 j i = inB 0 (j + 1) i := by
        unfold inB
        by_cases e2 : ((0 : Nat) : Int) ≤ i ∧ i < (j : Int)
        · rw [decide_eq_true e2, decide_eq_true (by omega)]
        · rw [decide_eq_false e2, decide_eq_false (by omega)]
      rw [this]
theorem rdO_down {nd : Int → Bool} {G : Nat → List Pt} {n k j : Nat} (hj : j < n) (hn8 : n ≤ 8) (hn : ∀ i : Nat, i < 8 → nd (i : Int) = true) : ansS (rdO nd G (n - j) n k) ((n - 1 - j : Nat) : Int) (G (n - 1 - j)) = rdO nd G (n - (j + 1)) n (k + 1) := by
  have hh := rdO_hear (G := G) (a := n - j) (b := n) (k := k) (j := n - 1 - j) (by omega) hn (Or.inl (by omega))
  unfold ansS
  rw [if_pos hh, hear_yes hh]
  unfold rdO
  congr 1
  · congr 1
    funext i
    unfold updB inB
    dsimp only
    by_cases e : i = ((n - 1 - j : Nat) : Int)
    · rw [if_pos e, decide_eq_true (by omega)]
    · rw [if_neg e]
      by_cases e2 : ((n - j : Nat) : Int) ≤ i ∧ i < (n : Int)
      · rw [decide_eq_true e2, decide_eq_true (by omega)]
      · rw [decide_eq_false e2, decide_eq_false (by omega)]
  · funext i
    dsimp only
    by_cases e : i = ((n - 1 - j : Nat) : Int)
    · rw [if_pos e, if_pos (by unfold inB; rw [decide_eq_true (by omega)]), show i.toNat = n - 1 - j by omega]
    · rw [if_neg e]
      have : inB (n - j) n i = inB (n - (j + 1)) n i := by
        unfold inB
        by_cases e2 : ((n - j : Nat) : Int) ≤ i ∧ i < (n : Int)
        · rw [decide_eq_true e2, decide_eq_true (by omega)]
        · rw [decide_eq_false e2, decide_eq_false (by omega)]
      rw [this]
/-- All of it. -/
def allG (G : Nat → List Pt) (n : Nat) : List Pt := ((List.range n).map fun i => srtR (G i)).flatten
theorem repL_rdO {nd : Int → Bool} {G : Nat → List Pt} {n k : Nat} (hn8 : n ≤ 8) (hn : ∀ i : Nat, i < 8 → nd (i : Int) = true) : repL (rdO nd G 0 n k).S = (List.range n).map fun i : Nat => (i : Int) := by
  have key : ∀ m, m ≤ 16 → pickK (fun i => nd i && inB 0 n i) m = (List.range (min m n)).map fun i : Nat => (i : Int) := fun m hm => by
    induction m with
    | zero => rfl
    | succ m ih =>
      by_cases h : m < n
      · rw [pickK_yes (by
          show (nd (m : Int) && inB 0 n (m : Int)) = true
          rw [hn m (by omega)]
          unfold inB
          rw [decide_eq_true (by omega)]
          rfl), ih (by omega), show min (m + 1) n = min m n + 1 by omega, List.range_succ, List.map_append]
        congr 1
        simp
        omega
      · rw [pickK_no (by
          show (nd (m : Int) && inB 0 n (m : Int)) = false
          unfold inB
          rw [decide_eq_false (by omega), Bool.and_false]), ih (by omega), show min (m + 1) n = min m n by omega]
  have := key 16 (by omega)
  rw [show min 16 n = n by omega] at this
  exact this
theorem mrg_rdO {nd : Int → Bool} {G : Nat → List Pt} {n k : Nat} (hn8 : n ≤ 8) (hn : ∀ i : Nat, i < 8 → nd (i : Int) = true) : mrgL (rdO nd G 0 n k) = srtR (allG G n) := by
  unfold mrgL ansL allG
  rw [repL_rdO hn8 hn, List.map_map]
  congr 2
  refine List.map_congr_left fun i hi => ?_
  have hi := List.mem_range.1 hi
  show (if inB 0 n (i : Int) = true then srtR (G ((i : Int)).toNat) else []) = srtR (G i)
  rw [if_pos (by unfold inB; rw [decide_eq_true (by omega)])]
  rfl
theorem done_rdO {nd : Int → Bool} {G : Nat → List Pt} {n k : Nat} (hn8 : n ≤ 8) (hn : ∀ i : Nat, i < 8 → nd (i : Int) = true) : doneB (rdO nd G 0 n k).S = decide (0 < n) := by
  unfold doneB
  rw [repL_rdO hn8 hn, List.length_map, List.length_range]
  show decide (max (1 : Int) 1 ≤ (n : Int)) = _
  by_cases h : 0 < n
  · rw [decide_eq_true h, decide_eq_true (by omega)]
  · rw [decide_eq_false h, decide_eq_false (by omega)]
theorem allG_mem {G : Nat → List Pt} {n : Nat} {x : Pt} (h : x ∈ allG G n) : ∃ i, i < n ∧ x ∈ G i := by
  unfold allG at h
  obtain ⟨l, hl, hx⟩ := List.mem_flatten.1 h
  obtain ⟨i, hi, rfl⟩ := List.mem_map.1 hl
  exact ⟨i, List.mem_range.1 hi, srtR_mem _ hx⟩
/-- A node's list with its repair comes to all of it. -/
theorem repaired {G : Nat → List Pt} {n i : Nat} (hi : i < n) (hd : ∀ i j, ∀ x ∈ G i, ∀ y ∈ G j, x.st = y.st → x = y) : srtR (G i ++ keepL (srtR (allG G n)) (inA (srtR (G i)))) = srtR (allG G n) := by
  have hr := rep_srtR (allG G n)
  have hri := rep_srtR (G i)
  obtain ⟨M, hM⟩ : ∃ M, srtR (allG G n) = M := ⟨_, rfl⟩
  rw [hM] at hr ⊢
  have hmem : ∀ x ∈ G i ++ keepL M (inA (srtR (G i))), ∃ j, j < n ∧ x ∈ G j := fun x hx => by
    rcases List.mem_append.1 hx with hx | hx
    · exact ⟨i, hi, hx⟩
    · unfold keepL at hx
      exact allG_mem (hr.mem x (List.mem_filter.1 hx).1)
  -- every point of a node's has one of M at its place, none newer
  have hin : ∀ j, j < n → ∀ y ∈ G j, ∃ x ∈ M, x.eqp y = true ∧ y.newer x = false := fun j hj y hy => by
    obtain ⟨z, hz, hzy⟩ := (rep_srtR (G j)).all y hy
    have hzA : z ∈ allG G n := by
      unfold allG
      exact List.mem_flatten.2 ⟨srtR (G j), List.mem_map.2 ⟨j, List.mem_range.2 hj, rfl⟩, hz⟩
    obtain ⟨x, hx, hxz⟩ := hr.all z hzA
    have hxy := Pt.eqp_trans hxz hzy
    refine ⟨x, hx, hxy, ?_⟩
    have t1 := hr.top x hx z hzA
    have t2 := (rep_srtR (G j)).top z hz y hy
    rw [newer_at (Pt.eqp_symm hxz)] at t1
    rw [newer_at (Pt.eqp_symm hzy)] at t2
    rw [newer_at (Pt.eqp_symm hxy)]
    cases hlt : x.st.lt y.st with
    | false => rfl
    | true =>
      exfalso
      cases h3 : z.st.lt x.st with
      | true => rw [St.lt_trans h3 hlt] at t2; cases t2
      | false =>
        have := St.lt_eq h3 t1
        rw [this, hlt] at t2; cases t2
  have R2 : Rep (G i ++ keepL M (inA (srtR (G i)))) M := by
    refine ⟨hr.srt, fun x hx => ?_, fun x hx y hy => ?_, fun y hy => ?_⟩
    · by_cases h : x ∈ srtR (G i)
      · exact List.mem_append_left _ (srtR_mem _ h)
      · refine List.mem_append_right _ (List.mem_filter.2 ⟨hx, ?_⟩)
        unfold inA
        rw [decide_eq_false h]; rfl
    · obtain ⟨j, hj, hyj⟩ := hmem y hy
      obtain ⟨z, hz, hzy, hnz⟩ := hin j hj y hyj
      by_cases hxy : x.eqp y = true
      · have e : look M y = some z := by
          have h1 := look_self hr.srt hz
          have : look M y = look M z := by
            unfold look
            congr 1
            funext u
            rw [Bool.eq_iff_iff, Pt.eqp_iff, Pt.eqp_iff]
            rw [Pt.eqp_iff] at hzy
            rw [hzy.1, hzy.2]
          rw [this]; exact h1
        have e2 : look M y = some x := by
          have h1 := look_self hr.srt hx
          have : look M y = look M x := by
            unfold look
            congr 1
            funext u
            rw [Bool.eq_iff_iff, Pt.eqp_iff, Pt.eqp_iff]
            rw [Pt.eqp_iff] at hxy
            rw [hxy.1, hxy.2]
          rw [this]; exact h1
        rw [e] at e2
        injection e2 with e2
        subst e2; exact hnz
      · cases hn : y.newer x with
        | false => rfl
        | true => exact absurd (Pt.eqp_symm (newer_eqp hn)) hxy
    · obtain ⟨j, hj, hyj⟩ := hmem y hy
      obtain ⟨z, hz, hzy, -⟩ := hin j hj y hyj
      exact ⟨z, hz, hzy⟩
  refine rep_uniq (fun x hx y hy h => ?_) (fun _ => Iff.rfl) (rep_srtR _) R2
  obtain ⟨i1, -, h1⟩ := hmem x hx
  obtain ⟨i2, -, h2⟩ := hmem y hy
  exact hd i1 i2 x h1 y h2 h
theorem rpr_rdO {nd : Int → Bool} {G : Nat → List Pt} {n k i : Nat} (hi : i < n) (hn8 : n ≤ 8) (hn : ∀ i : Nat, i < 8 → nd (i : Int) = true) : rprL (rdO nd G 0 n k) (i : Int) = keepL (srtR (allG G n)) (inA (srtR (G i))) := by
  unfold rprL
  rw [if_pos (by
    unfold hasB nodeB
    show ((decide ((0 : Int) ≤ (i : Int)) && decide ((i : Int) < 16)) && nd (i : Int)) = true
    rw [hn i (by omega), decide_eq_true (by omega), decide_eq_true (by omega)]; rfl), mrg_rdO hn8 hn]
  congr 2
  show (if inB 0 n (i : Int) = true then srtR (G ((i : Int)).toNat) else []) = srtR (G i)
  rw [if_pos (by unfold inB; rw [decide_eq_true (by omega)])]
  rfl
end Go.Proofs.Ytcjcbbpolhpphaa.Qu

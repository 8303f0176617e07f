/- The document's read. -/
import Derived.Test.YtcjcbbpolhpphaaQuRep
import Derived.Test.YtcjcbbpolhpphaaBlockRPut
set_option maxRecDepth 20000
set_option linter.unusedSimpArgs false
set_option linter.unusedVariables false
namespace Go.Proofs.Ytcjcbbpolhpphaa.Qu
open Go.RowKit Go.Proofs.Ytcjcbbpolhpphaa.Vi

theorem IRow.ns {w : World} {B : Nat} {v : Value} {xs : List Int} (h : IRow w B v xs) (hw : ∀ n ∈ xs, -9223372036854775808 ≤ n ∧ n ≤ 9223372036854775807) (hl : xs.length ≤ 1000) : Ns w v xs := by
  obtain ⟨a, c, rfl⟩ := h.slice
  refine ⟨⟨a, c, rfl, ?_⟩, hw, by omega, Nat.le_refl _⟩
  by_cases h0 : xs = []
  · exact Or.inl h0
  · obtain ⟨g, rfl, -, hg, hc⟩ := h.cell (by cases xs with
      | nil => exact absurd rfl h0
      | cons x t => simp)
    exact Or.inr ⟨g, 0, rfl, hg, fun j hj => by rw [Nat.zero_add]; exact hc j hj⟩
theorem irow_other {w w' : World} {B : Nat} {v : Value} {xs : List Int} (h : IRow w B v xs) (k : ∀ (g : Nat) (cur : Array Value), w.heap[g]? = some (.cells cur 3 (0, 0)) → w'.heap[g]? = w.heap[g]?) : IRow w' B v xs := by
  obtain ⟨h1, h2⟩ := h
  refine ⟨h1, ?_⟩
  rcases h2 with h2 | ⟨g, cap, cur, e1, e2, e3, rest⟩
  · exact Or.inl h2
  · exact Or.inr ⟨g, cap, cur, e1, e2, (k g cur e3).trans e3, rest⟩
theorem pick_ok (p : Int → Bool) : ∀ n ∈ pickL p, -9223372036854775808 ≤ n ∧ n ≤ 9223372036854775807 := fun n hn => by
  unfold pickL at hn
  have := (pickK_mem.1 hn).1
  omega
theorem pick_16 (p : Int → Bool) : (pickL p).length ≤ 16 := pickK_len p 16
/-- The document's read at block d. -/
structure DAt (w : World) (B d : Nat) (R : RS) : Prop where
  big : ∃ cur : Array Value, w.heap[d]? = some (.cells cur 38 (0, 0))
  need : w.cell? ⟨d, 0, none⟩ = some (.int .i64 (max R.S.need 1))
  nodes : ∃ v, w.cell? ⟨d, 1, none⟩ = some v ∧ IRow w B v (pickL R.S.nd)
  hd : ∀ i : Nat, i < 16 → w.cell? ⟨d, 2 + i, none⟩ = some (.bool (R.S.hd (i : Int)))
  got : ∀ i : Nat, i < 16 → ∃ a c, w.cell? ⟨d, 18 + i, none⟩ = some (.slice a (R.an (i : Int)).length c) ∧ PRow w B (.slice a (R.an (i : Int)).length c) (R.an (i : Int))
  lo : B ≤ d
  ok : -9223372036854775808 ≤ R.S.need ∧ R.S.need ≤ 9223372036854775807
  len : ∀ i, (R.an i).length ≤ 1000
theorem DAt.lt {w : World} {B d : Nat} {R : RS} (h : DAt w B d R) : d < w.heap.size := by
  obtain ⟨cur, h⟩ := h.big
  exact (Array.getElem?_eq_some_iff.1 h).1
theorem DAt.frozen {w : World} {B d : Nat} {R : RS} (h : DAt w B d R) (o : Nat) : w.frozen? ⟨d, o, none⟩ = false := by
  obtain ⟨cur, h⟩ := h.big
  unfold World.frozen?
  simp [h]
theorem DAt.other {w w' : World} {B d : Nat} {R : RS} (h : DAt w B d R) (k : ∀ g, g < w.heap.size → g = d ∨ (∃ cur : Array Value, w.heap[g]? = some (.cells cur 55 (0, 0))) ∨ (∃ cur : Array Value, w.heap[g]? = some (.cells cur 3 (0, 0))) → w'.heap[g]? = w.heap[g]?) : DAt w' B d R := by
  have kd := k d h.lt (Or.inl rfl)
  have hc : ∀ o, w'.cell? ⟨d, o, none⟩ = w.cell? ⟨d, o, none⟩ := fun o => World.cell?_of_block (w := w) kd
  have kp : ∀ (g : Nat) (cur : Array Value), w.heap[g]? = some (.cells cur 55 (0, 0)) → w'.heap[g]? = w.heap[g]? := fun g cur hg => k g (Array.getElem?_eq_some_iff.1 hg).1 (Or.inr (Or.inl ⟨cur, hg⟩))
  have ki : ∀ (g : Nat) (cur : Array Value), w.heap[g]? = some (.cells cur 3 (0, 0)) → w'.heap[g]? = w.heap[g]? := fun g cur hg => k g (Array.getElem?_eq_some_iff.1 hg).1 (Or.inr (Or.inr ⟨cur, hg⟩))
  obtain ⟨⟨cur, h0⟩, h1, ⟨v, h2, h2'⟩, h3, h4, h5, h6, h7⟩ := h
  exact ⟨⟨cur, kd.trans h0⟩, (hc _).trans h1, ⟨v, (hc _).trans h2, irow_other h2' ki⟩, fun i hi => (hc _).trans (h3 i hi), fun i hi => (h4 i hi).imp fun a h => h.imp fun c h => ⟨(hc _).trans h.1, prow_other h.2 kp⟩, h5, h6, h7⟩
theorem DAt.later {w w' : World} {B d : Nat} {R : RS} (h : DAt w B d R) (k : Below w.heap.size w w') : DAt w' B d R := h.other fun g hg _ => k.block g hg
theorem DAt.nds {w : World} {B d : Nat} {R : RS} (h : DAt w B d R) : ∃ v, w.cell? ⟨d, 1, none⟩ = some v ∧ Ns w v (pickL R.S.nd) := by
  obtain ⟨v, h1, h2⟩ := h.nodes
  exact ⟨v, h1, h2.ns (pick_ok _) (by have := pick_16 R.S.nd; omega)⟩
/-- Of nodes that have not been heard of nothing is there. -/
def Good (R : RS) : Prop := ∀ i : Int, (R.S.nd i && R.S.hd i) = false → R.an i = []
theorem good_new (need : Int) (l : List Int) : Good (newR need l) := fun _ _ => rfl
theorem Good.ans {R : RS} (h : Good R) (n : Int) (l : List Pt) : Good (ansS R n l) := fun i hi => by
  unfold ansS at hi ⊢
  by_cases hy : hearB R.S n = true
  · rw [if_pos hy] at hi ⊢
    dsimp only at hi ⊢
    rw [hear_yes hy] at hi
    dsimp only at hi
    have hy2 := hy
    unfold hearB hasB at hy2
    simp only [Bool.and_eq_true] at hy2
    by_cases e : i = n
    · subst e
      unfold updB at hi
      rw [if_pos rfl, hy2.1.2] at hi
      cases hi
    · rw [if_neg e]
      unfold updB at hi
      rw [if_neg e] at hi
      exact h i hi
  · rw [if_neg hy] at hi ⊢
    exact h i hi
theorem flat_filter (p : Int → Bool) (f : Int → List Pt) (h : ∀ i, p i = false → f i = []) : ∀ L : List Int, ((L.filter p).map f).flatten = (L.map f).flatten := fun L => by
  induction L with
  | nil => rfl
  | cons x t ih =>
    rw [List.filter_cons]
    by_cases hx : p x = true
    · rw [if_pos hx, List.map_cons, List.flatten_cons, ih, List.map_cons, List.flatten_cons]
    · rw [if_neg hx, ih, List.map_cons, List.flatten_cons, h x (by simpa using hx), List.nil_append]
/-- All lists of the first k nodes, one behind the other. -/
def allK (R : RS) (k : Nat) : List Pt := (((List.range k).map (fun i : Nat => (i : Int))).map R.an).flatten
theorem allK_snoc (R : RS) (k : Nat) : allK R (k + 1) = allK R k ++ R.an (k : Int) := by
  unfold allK
  rw [List.range_succ, List.map_append, List.map_append, List.flatten_append]
  simp
theorem allK_good {R : RS} (h : Good R) : srtR (allK R 16) = mrgL R := by
  unfold mrgL ansL repL pickL pickK allK
  rw [flat_filter _ _ h]
theorem allK_len {R : RS} (h : ∀ i, (R.an i).length ≤ 1000) (k : Nat) : (allK R k).length ≤ k * 1000 := by
  induction k with
  | zero => simp [allK]
  | succ k ih =>
    rw [allK_snoc, List.length_append]
    have := h (k : Int)
    omega
theorem in_has (S : QS) (n : Int) : inL (pickL S.nd) n = hasB S n := by
  rw [pick_in]
  unfold hasB nodeB
  rw [Bool.and_assoc]
/-- A new one. -/
theorem dat_new (w : World) (B : Nat) (need : Int) (l : List Int) (v : Value) (hB : B ≤ w.heap.size) (hv : IRow w B v (pickL (inL l))) (hok : -9223372036854775808 ≤ need ∧ need ≤ 9223372036854775807) (m : Int) (hm : m = max need 1) :
    DAt (w.alloc (.cells #[.int .i64 m, v, .bool false, .bool false, .bool false, .bool false, .bool false, .bool false, .bool false, .bool false, .bool false, .bool false, .bool false, .bool false, .bool false, .bool false, .bool false, .bool false, .slice none 0 0, .slice none 0 0, .slice none 0 0, .slice none 0 0, .slice none 0 0, .slice none 0 0, .slice none 0 0, .slice none 0 0, .slice none 0 0, .slice none 0 0, .slice none 0 0, .slice none 0 0, .slice none 0 0, .slice none 0 0, .slice none 0 0, .slice none 0 0] 38)) B w.heap.size (newR need l) := by
  subst hm
  have hb := heap_alloc_new w (.cells #[.int .i64 (max need 1), v, .bool false, .bool false, .bool false, .bool false, .bool false, .bool false, .bool false, .bool false, .bool false, .bool false, .bool false, .bool false, .bool false, .bool false, .bool false, .bool false, .slice none 0 0, .slice none 0 0, .slice none 0 0, .slice none 0 0, .slice none 0 0, .slice none 0 0, .slice none 0 0, .slice none 0 0, .slice none 0 0, .slice none 0 0, .slice none 0 0, .slice none 0 0, .slice none 0 0, .slice none 0 0, .slice none 0 0, .slice none 0 0] 38)
  have hal := (Below.refl w.heap.size w).alloc (Nat.le_refl _) (.cells #[.int .i64 (max need 1), v, .bool false, .bool false, .bool false, .bool false, .bool false, .bool false, .bool false, .bool false, .bool false, .bool false, .bool false, .bool false, .bool false, .bool false, .bool false, .bool false, .slice none 0 0, .slice none 0 0, .slice none 0 0, .slice none 0 0, .slice none 0 0, .slice none 0 0, .slice none 0 0, .slice none 0 0, .slice none 0 0, .slice none 0 0, .slice none 0 0, .slice none 0 0, .slice none 0 0, .slice none 0 0, .slice none 0 0, .slice none 0 0] 38)
  have hv2 := IRow.later hv hal
  generalize World.alloc w _ = W at *
  have hc : ∀ o, W.cell? ⟨w.heap.size, o, none⟩ = (#[.int .i64 (max need 1), v, .bool false, .bool false, .bool false, .bool false, .bool false, .bool false, .bool false, .bool false, .bool false, .bool false, .bool false, .bool false, .bool false, .bool false, .bool false, .bool false, .slice none 0 0, .slice none 0 0, .slice none 0 0, .slice none 0 0, .slice none 0 0, .slice none 0 0, .slice none 0 0, .slice none 0 0, .slice none 0 0, .slice none 0 0, .slice none 0 0, .slice none 0 0, .slice none 0 0, .slice none 0 0, .slice none 0 0, .slice none 0 0] : Array Value)[o]? := fun o => by
    unfold World.cell?
    dsimp only
    rw [hb]
    rfl
  refine ⟨⟨_, hb⟩, hc 0, ⟨v, hc 1, hv2⟩, fun i hi => ?_, fun i hi => ⟨none, 0, ?_, PRow.nil _ _⟩, hB, hok, fun i => by simp [newR]⟩
  · rw [hc]
    match i, hi with
    | 0, _ | 1, _ | 2, _ | 3, _ | 4, _ | 5, _ | 6, _ | 7, _ | 8, _ | 9, _ | 10, _ | 11, _ | 12, _ | 13, _ | 14, _ | 15, _ => rfl
    | n + 16, h => exact absurd h (by omega)
  · rw [hc]
    match i, hi with
    | 0, _ | 1, _ | 2, _ | 3, _ | 4, _ | 5, _ | 6, _ | 7, _ | 8, _ | 9, _ | 10, _ | 11, _ | 12, _ | 13, _ | 14, _ | 15, _ => rfl
    | n + 16, h => exact absurd h (by omega)
def DNew (need : Int) (l : List Int) (w : World) (e : Ending) (w' : World) : Prop := ∃ d, e = .returned (.pointer (some ⟨d, 0, none⟩)) ∧ DAt w' w.heap.size d (newR need l) ∧ Below w.heap.size w w'
set_option maxHeartbeats 2000000 in
theorem rnew_is (need : Int) (v : Value) (l : List Int) (w : World) (h : Ns w v l) (hok : -9223372036854775808 ≤ need ∧ need ≤ 9223372036854775807) : Calls Try.prog 11 #[.int .i64 need, v] w (DNew need l w) := by
  have kn := rnodes_is v l w h
  rw [nodes_pick] at kn
  by_cases hlt : need < 1
  · have HM := Lib.hid (show (1 : Int) = max need 1 by omega)
    clear h
    go_enter Try.func11, Try.ntmps11
    go_wp2_with (go_at_call 36; (with_reducible refine kn.mono ?_); rintro e w1 ⟨v1, rfl, hR, hb1⟩; (have HR := Lib.hid hR); (have HB := Lib.hid hb1); (have hsl := hR.slice); (obtain ⟨a1, c1, rfl⟩ := hsl); clear hR hb1)
    go_ret
    exact ⟨_, rfl, dat_new w1 w.heap.size need l _ HB.out.size HR.out hok 1 HM.out, bel_new HB.out _⟩
  · have HM := Lib.hid (show need = max need 1 by omega)
    clear h
    go_enter Try.func11, Try.ntmps11
    go_wp2_with (go_at_call 36; (with_reducible refine kn.mono ?_); rintro e w1 ⟨v1, rfl, hR, hb1⟩; (have HR := Lib.hid hR); (have HB := Lib.hid hb1); (have hsl := hR.slice); (obtain ⟨a1, c1, rfl⟩ := hsl); clear hR hb1)
    go_ret
    exact ⟨_, rfl, dat_new w1 w.heap.size need l _ HB.out.size HR.out hok need HM.out, bel_new HB.out _⟩
def bothB (b : Bool) (S : QS) (i : Int) : Bool := S.nd i && (S.hd i == b)
def bothL (b : Bool) (S : QS) : List Int := pickL (bothB b S)
theorem both_yes (S : QS) : bothL true S = repL S := by
  unfold bothL repL
  congr 1
  funext i
  unfold bothB
  cases S.hd i <;> rfl
theorem both_no (S : QS) : bothL false S = silL S := by
  unfold bothL silL
  congr 1
  funext i
  unfold bothB
  cases S.hd i <;> rfl
theorem both_len (b : Bool) (S : QS) (k : Nat) : (((pickL S.nd).take k).filter fun i => S.hd i == b).length ≤ 16 := by
  refine Nat.le_trans (List.length_filter_le _ _) ?_
  rw [List.length_take]
  have := pick_16 S.nd
  omega
set_option maxHeartbeats 4000000 in
theorem rhav_is {w : World} {B d : Nat} {R : RS} (bb : Bool) (h : DAt w B d R) : Calls Try.prog 16 #[.pointer (some ⟨d, 0, none⟩), .bool bb] w (IDone (bothL bb R.S) w) := by
  obtain ⟨n, hn⟩ : ∃ n, (pickL R.S.nd).length = n := ⟨_, rfl⟩
  have HN := Lib.hid hn
  have hn16 : n ≤ 16 := by rw [← hn]; exact pick_16 _
  have H := Lib.hid h
  clear h hn
  go_enter Try.func16, Try.ntmps16
  go_wp2
  go_loopw [5, 6] (fun out i wr => ∃ k : Nat, k ≤ n ∧ i = .int .i64 (k : Int) ∧ IRow wr w.heap.size out (((pickL R.S.nd).take k).filter fun i => R.S.hd i == bb) ∧ Below w.heap.size w wr) (fun _ i _ => n - (intOf i).toNat)
  case atStart => exact ⟨0, by omega, rfl, IRow.nil _ _, Below.refl _ _⟩
  case round =>
    obtain ⟨k, hk, rfl, hR, hB⟩ := hrel
    obtain ⟨w2, hw2⟩ : ∃ w2, w2 = wr := ⟨_, rfl⟩
    subst hw2
    obtain ⟨a3, d3, rfl⟩ := hR.slice
    have hlen := both_len bb R.S k
    have h2 := H.out.later hB
    have HB := Lib.hid hB
    have H2 := Lib.hid h2
    obtain ⟨vn, cn, hns⟩ := h2.nds
    obtain ⟨an, pn, rfl⟩ := hns.slice
    rw [HN.out] at cn
    have hsz := hns.size
    rw [HN.out] at hsz
    by_cases hlt : k < n
    · have hlt2 : (k : Int) < (n : Int) := by omega
      have hkl : k < (pickL R.S.nd).length := by rw [HN.out]; exact hlt
      obtain ⟨-, g, off, rfl, hc⟩ := hns.cell (by omega)
      have c1 := hc k hkl
      have hmem := List.getElem_mem hkl
      unfold pickL at hmem
      obtain ⟨hxx, -⟩ := pickK_mem.1 hmem
      change (0 : Int) ≤ (pickL R.S.nd)[k] ∧ (pickL R.S.nd)[k] < ((16 : Nat) : Int) at hxx
      have hst : ((pickL R.S.nd).take (k + 1)).filter (fun i => R.S.hd i == bb) = ((pickL R.S.nd).take k).filter (fun i => R.S.hd i == bb) ++ (if (R.S.hd (pickL R.S.nd)[k] == bb) = true then [(pickL R.S.nd)[k]] else []) := by
        rw [List.take_succ_eq_append_getElem hkl, List.filter_append]
        congr 1
        cases hq : (R.S.hd (pickL R.S.nd)[k] == bb) <;> simp [hq]
      obtain ⟨x, hx⟩ : ∃ x, (pickL R.S.nd)[k] = x := ⟨_, rfl⟩
      rw [hx] at c1 hst hxx
      obtain ⟨hx0, hx1⟩ := hxx
      obtain ⟨j, rfl⟩ : ∃ j : Nat, x = (j : Int) := ⟨x.toNat, by omega⟩
      have hj : j < 16 := by omega
      have cj := h2.hd j hj
      obtain ⟨y, hy⟩ : ∃ y, R.S.hd (j : Int) = y := ⟨_, rfl⟩
      rw [hy] at cj hst
      obtain ⟨L, hL⟩ : ∃ L, ((pickL R.S.nd).take k).filter (fun i => R.S.hd i == bb) = L := ⟨_, rfl⟩
      rw [hL] at hR hst hlen ⊢
      obtain ⟨m, hm⟩ : ∃ m, L.length = m := ⟨_, rfl⟩
      rw [hm] at hR hlen ⊢
      have HM := Lib.hid hm
      have HR := Lib.hid hR
      have hd0 := h2.lt
      have hB1 := HB.out.size
      clear hc hmem hx hL hm hR hB h2 hns hkl
      by_cases hq : y = bb
      · have hq2 : (y == bb) = true := by simpa using hq
        rw [if_pos hq2] at hst
        have HST := Lib.hid hst
        have hr := HR.out
        clear hst hy hq
        go_wp2_with fail
        go_quiet (fail)
        go_wp2_with (at_builtin; refine wpList_irow (w := w2.drewN nq) rfl _ _ rfl w.heap.size (.slice a3 m d3) L rfl (j : Int) rfl (IRow.later hr (Below.refl _ _ |> fun k => below_drewN k nq)) hB1 (by rw [HM.out]; omega) ?_; intro v4 w4 hr4 hb4 G4; (have HR4 := Lib.hid hr4); (have HB4 := Lib.hid ((below_drewN HB.out nq).trans hb4)); clear hr4 hb4 G4 hr hB1)
        go_roundw
        case rel => exact ⟨k + 1, by omega, by go_num, by rw [HST.out]; exact HR4.out, HB4.out⟩
        case measure => simp [intOf]; omega
      · have hq2 : (y == bb) = false := by simpa using hq
        rw [if_neg (by rw [hq2]; decide), List.append_nil] at hst
        have HST := Lib.hid hst
        clear hst hy hq
        go_wp2_with fail
        go_quiet (fail)
        go_wp2
        go_roundw
        case rel => exact ⟨k + 1, by omega, by go_num, by rw [HST.out]; exact IRow.later HR.out (below_drewN (Below.refl _ _) _), below_drewN HB.out _⟩
        case measure => simp [intOf]; omega
    · obtain rfl : k = n := by omega
      have HE := Lib.hid (show ((pickL R.S.nd).take k).filter (fun i => R.S.hd i == bb) = bothL bb R.S by
        rw [List.take_of_length_le (by rw [HN.out]; exact Nat.le_refl _), pick_filter]; rfl)
      obtain ⟨L, hL⟩ : ∃ L, ((pickL R.S.nd).take k).filter (fun i => R.S.hd i == bb) = L := ⟨_, rfl⟩
      rw [hL] at hR HE ⊢
      have HR := Lib.hid hR
      obtain ⟨m, hm⟩ : ∃ m, L.length = m := ⟨_, rfl⟩
      rw [hm] at HR ⊢
      clear hR hB hL hlen h2 hns hm
      go_wp2
      go_ret
      exact ⟨_, rfl, by rw [← HE.out]; exact HR.out, HB.out⟩
end Go.Proofs.Ytcjcbbpolhpphaa.Qu

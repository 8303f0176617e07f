/- HintBounds. -/
import Derived.Test.YtolmhlfegllfoaaHiAwake
set_option maxRecDepth 20000
set_option linter.unusedSimpArgs false
set_option linter.unusedVariables false
namespace Go.Proofs.Ytolmhlfegllfoaa.Qu.Hi
open Go.RowKit Go.Maps Go.Proofs.Ytolmhlfegllfoaa.Vi Go.Proofs.Ytolmhlfegllfoaa.Mk

theorem tm31 (n : Int) : ∃ (q : Int) (k : Nat), n.tmod 31 = q ∧ k ≤ 30 ∧ ((q < 0 ∧ IntKind.i64.wrap (-q) = (k : Int)) ∨ (¬ q < 0 ∧ q = (k : Int))) := by
  have h1 := Int.tmod_lt_of_pos n (show (0 : Int) < 31 by decide)
  have h2 := Int.lt_tmod_of_pos n (show (0 : Int) < 31 by decide)
  by_cases h : n.tmod 31 < 0
  · exact ⟨_, (-(n.tmod 31)).toNat, rfl, by omega, Or.inl ⟨h, by rw [IntKind.wrap_i64]; omega⟩⟩
  · exact ⟨_, (n.tmod 31).toNat, rfl, by omega, Or.inr ⟨h, by omega⟩⟩
theorem tm21 (n : Int) : ∃ (q : Int) (k : Nat), n.tmod 21 = q ∧ k ≤ 20 ∧ ((q < 0 ∧ IntKind.i64.wrap (-q) = (k : Int)) ∨ (¬ q < 0 ∧ q = (k : Int))) := by
  have h1 := Int.tmod_lt_of_pos n (show (0 : Int) < 21 by decide)
  have h2 := Int.lt_tmod_of_pos n (show (0 : Int) < 21 by decide)
  by_cases h : n.tmod 21 < 0
  · exact ⟨_, (-(n.tmod 21)).toNat, rfl, by omega, Or.inl ⟨h, by rw [IntKind.wrap_i64]; omega⟩⟩
  · exact ⟨_, (n.tmod 21).toNat, rfl, by omega, Or.inr ⟨h, by omega⟩⟩
theorem tm6 (n : Int) : ∃ (q : Int) (k : Nat), n.tmod 6 = q ∧ k ≤ 5 ∧ ((q < 0 ∧ IntKind.i64.wrap (-q) = (k : Int)) ∨ (¬ q < 0 ∧ q = (k : Int))) := by
  have h1 := Int.tmod_lt_of_pos n (show (0 : Int) < 6 by decide)
  have h2 := Int.lt_tmod_of_pos n (show (0 : Int) < 6 by decide)
  by_cases h : n.tmod 6 < 0
  · exact ⟨_, (-(n.tmod 6)).toNat, rfl, by omega, Or.inl ⟨h, by rw [IntKind.wrap_i64]; omega⟩⟩
  · exact ⟨_, (n.tmod 6).toNat, rfl, by omega, Or.inr ⟨h, by omega⟩⟩
/-- The numbers from 0 on. -/
def lmK (m : Nat) : List Int := (List.range m).map fun i : Nat => (i : Int)
theorem lmK_snoc (m : Nat) : lmK (m + 1) = lmK m ++ [(m : Int)] := by unfold lmK; rw [List.range_succ, List.map_append]; rfl
theorem lmK_len (m : Nat) : (lmK m).length = m := by unfold lmK; simp
theorem pick_lm (m : Nat) (hm : m ≤ 5) : (pick (inL (lmK m))).length = m := by
  match m, hm with
  | 0, _ | 1, _ | 2, _ | 3, _ | 4, _ | 5, _ => decide +kernel
theorem lmK_wide {m : Nat} (hm : m ≤ 5) : ∀ n ∈ lmK m, -9223372036854775808 ≤ n ∧ n ≤ 9223372036854775807 := fun n hn => by
  unfold lmK at hn
  obtain ⟨i, hi, rfl⟩ := List.mem_map.1 hn
  have := List.mem_range.1 hi
  omega
theorem bd_fresh {L : List Hk} {i m : Nat} (hL : ∀ x ∈ L, x.p ≠ PP i) (hm : m ≤ 5) : (freshL L (PP i) (lmK m)).length = m := by
  unfold freshL
  rw [List.length_map]
  refine Eq.trans ?_ (pick_lm m hm)
  congr 1
  refine pick_congr fun n _ _ => ?_
  unfold newB
  have : hasB L ⟨PP i, n⟩ = false := by
    unfold hasB
    exact decide_eq_false fun h => hL _ h rfl
  rw [this]
  simp
theorem bd_owed_no {L : List Hk} {i : Nat} (hL : ∀ x ∈ L, x.p ≠ PP i) : owedL L (PP i) = [] := by
  have e : owedL L (PP i) = pick fun _ => false := by
    unfold owedL
    refine pick_congr fun n _ _ => ?_
    unfold hasB
    exact decide_eq_false fun h => hL _ h rfl
  rw [e]
  decide
theorem bd_owed_yes {L : List Hk} {i m : Nat} (hL : ∀ x ∈ L, x.p ≠ PP i) (hm : m ≤ 5) : (owedL (L ++ freshL L (PP i) (lmK m)) (PP i)).length = m := by
  refine Eq.trans ?_ (pick_lm m hm)
  congr 1
  unfold owedL
  refine pick_congr fun n h1 h2 => ?_
  have h3 : (⟨PP i, n⟩ : Hk) ∉ L := fun h => hL _ h rfl
  unfold hasB inL
  rw [Bool.eq_iff_iff, decide_eq_true_eq, decide_eq_true_eq, List.mem_append]
  constructor
  · rintro (h | h)
    · exact absurd h h3
    · exact (fresh_mem.1 h).2.2.1
  · exact fun h => Or.inr (fresh_mem.2 ⟨rfl, ⟨h1, h2⟩, h, h3⟩)
theorem pp_ne {i j : Nat} (h : j < i) : PP j ≠ PP i := fun e => by
  have : (PP j).t = (PP i).t := by rw [e]
  have : (j : Int) = (i : Int) := this
  omega
theorem irow_other' {w w' : World} {B : Nat} {v : Value} {xs : List Int} (h : IRow w B v xs) (k : ∀ (g : Nat) (cur : Array Value), w.heap[g]? = some (.cells cur 3 (0, 0)) → w'.heap[g]? = w.heap[g]?) : IRow w' B v xs := by
  obtain ⟨h1, h2⟩ := h
  refine ⟨h1, ?_⟩
  rcases h2 with h2 | ⟨g, cap, cur, e1, e2, e3, rest⟩
  · exact Or.inl h2
  · exact Or.inr ⟨g, cap, cur, e1, e2, (k g cur e3).trans e3, rest⟩
theorem irow_own {w : World} {B g : Nat} {v : Value} {xs : List Int} (h : IRow w B v xs) (e : v.ownBlock = some g) : ∃ cur, w.heap[g]? = some (.cells cur 3 (0, 0)) := by
  rcases h.2 with ⟨rfl, _⟩ | ⟨g', cap, cur, rfl, _, hh, _⟩
  · cases e
  · injection e with e; subst e; exact ⟨cur, hh⟩
/-- A slice of numbers has grown: the collection stands. -/
theorem HiAt.irow {w w' : World} {B b mm : Nat} {room : Int} {L : List Hk} {v v' : Value} {xs : List Int} (h : HiAt w B b (some mm) room L) (hR : IRow w B v xs) (G : Grew w w' v v') : HiAt w' B b (some mm) room L :=
  h.other (G.grown.block b h.lt fun e => by
    obtain ⟨cur, e2⟩ := irow_own hR e.symm
    exact absurd rfl (h.off (T := 3) (by decide) e2).1) fun m e => G.grown.block m (by rw [← Option.some.inj e]; exact h.mlt) fun e3 => by
    obtain ⟨cur, e2⟩ := irow_own hR e3.symm
    exact (h.off (T := 3) (by decide) e2).2 e.symm
theorem Grew.below' {w w1 w' : World} {B : Nat} {v v' : Value} {xs : List Int} (G : Grew w1 w' v v') (h : Below w.heap.size w w1) (hR : IRow w1 B v xs) (hB : w.heap.size ≤ B) : Below w.heap.size w w' :=
  h.grown G.grown h.size fun g hg => Nat.le_trans hB (World.ownsRow.lt hR g hg).1
structure BdJ (w wr : World) (B b mm : Nat) (kk m : Nat) (i has : Nat) (lv : Value) (L : List Hk) : Prop where
  at_ : HiAt wr B b (some mm) (kk : Int) L
  len : L.length = has
  pts : ∀ x ∈ L, ∃ j, j < i ∧ x.p = PP j
  bel : Below w.heap.size w wr
  row : IRow wr B lv (lmK m)
theorem BdJ.later {w wr w' : World} {B b mm kk m i has : Nat} {lv : Value} {L : List Hk} (h : BdJ w wr B b mm kk m i has lv L) (hb : Below wr.heap.size wr w') : BdJ w w' B b mm kk m i has lv L :=
  ⟨h.at_.later hb, h.len, h.pts, bel_next h.bel hb, h.row.later hb⟩
theorem BdJ.new {w wr : World} {B b mm kk m i has : Nat} {lv : Value} {L : List Hk} (h : BdJ w wr B b mm kk m i has lv L) : ∀ x ∈ L, x.p ≠ PP i := fun x hx => by
  obtain ⟨j, hj, e⟩ := h.pts x hx
  rw [e]; exact pp_ne hj
theorem irow_grown {w w' : World} {B b mm : Nat} {room : Int} {L : List Hk} {v : Value} {xs : List Int} (h : IRow w B v xs) (hA : HiAt w B b (some mm) room L) (k : w.grownBy w' (some mm)) : IRow w' B v xs := irow_other' h fun g cur e => k.block g (Array.getElem?_eq_some_iff.1 e).1 fun e2 => by
  have e2 := Option.some.inj e2
  subst e2
  obtain ⟨es, cl, e3⟩ := (hA.some_ g rfl).2.heap
  rw [e] at e3
  injection e3 with e3
  cases e3
theorem BdJ.added {w W w' : World} {B b mm kk m i has : Nat} {lv : Value} {L : List Hk} (h : BdJ w W B b mm kk m i has lv L) (h1 : HiAt w' B b (some mm) (kk : Int) (addL L (kk : Int) (PP i) (lmK m))) (h2 : W.grownBy w' (some mm)) (ho : addOk L (kk : Int) (PP i) (lmK m) = true) (hB : w.heap.size ≤ B) (hf : (freshL L (PP i) (lmK m)).length = m) : BdJ w w' B b mm kk m (i + 1) (has + m) lv (L ++ freshL L (PP i) (lmK m)) := by
  unfold addL at h1
  rw [ho, if_pos rfl] at h1
  refine ⟨h1, by rw [List.length_append, hf, h.len], fun x hx => ?_, (h.bel.grown h2 h.bel.size fun g hg => by rw [← Option.some.inj hg]; exact Nat.le_trans hB (h.at_.some_ mm rfl).1), irow_grown h.row h.at_ h2⟩
  rcases List.mem_append.1 hx with hx | hx
  · obtain ⟨j, hj, e⟩ := h.pts x hx
    exact ⟨j, by omega, e⟩
  · exact ⟨i, by omega, (fresh_mem.1 hx).1⟩
theorem BdJ.kept_ {w W w' : World} {B b mm kk m i has : Nat} {lv : Value} {L : List Hk} (h : BdJ w W B b mm kk m i has lv L) (h1 : HiAt w' B b (some mm) (kk : Int) (addL L (kk : Int) (PP i) (lmK m))) (h2 : W.grownBy w' (some mm)) (ho : addOk L (kk : Int) (PP i) (lmK m) = false) (hB : w.heap.size ≤ B) : BdJ w w' B b mm kk m (i + 1) has lv L := by
  unfold addL at h1
  rw [ho, if_neg (by simp)] at h1
  refine ⟨h1, h.len, fun x hx => ?_, (h.bel.grown h2 h.bel.size fun g hg => by rw [← Option.some.inj hg]; exact Nat.le_trans hB (h.at_.some_ mm rfl).1), irow_grown h.row h.at_ h2⟩
  obtain ⟨j, hj, e⟩ := h.pts x hx
  exact ⟨j, by omega, e⟩
namespace hintBounds
set_option maxHeartbeats 16000000 in
theorem walk (n0 n1 n2 : Int) (w : World) (h0 : -9223372036854775808 ≤ n0 ∧ n0 ≤ 9223372036854775807) (h1 : -9223372036854775808 ≤ n1 ∧ n1 ≤ 9223372036854775807) (h2 : -9223372036854775808 ≤ n2 ∧ n2 ≤ 9223372036854775807) : Calls Try.prog 5 #[.int .i64 n0, .int .i64 n1, .int .i64 n2] w fun e w' => e = .returned (.bool true) ∧ Below w.heap.size w w' := by
  have ka := awake_is w
  obtain ⟨q0, kk, q0q, hkk, q0c⟩ := tm31 n0
  obtain ⟨q1, nn, q1q, hnn, q1c⟩ := tm21 n1
  obtain ⟨q2, m, q2q, hm, q2c⟩ := tm6 n2
  have kp : ∀ (t : Int) (W : World), Calls Try.prog 29 #[.int .i64 t] W fun e w' => e = .returned (.agg #[.string ⟨#[97]⟩, .int .i64 t, .int .i64 0, .int .i64 1, .int .i64 0, .int .i64 1]) ∧ Below W.heap.size W w' := fun t W => pp_is t W
  have knw := fun W => new_is (kk : Int) W
  have HCAP := Lib.hid (show capH (kk : Int) = (kk : Int) by unfold capH; omega)
  clear h0 h1 h2
  go_enter Try.func5, Try.ntmps5
  go_upto_if 21 with (go_at_call 8; (with_reducible refine ka.mono ?_); rintro e w1 ⟨rfl, hb1⟩; (have HB1 := Lib.hid hb1); clear hb1)
  go_cut [8] from 18 (fun v wx => v = .int .i64 (kk : Int) ∧ w1 = wx)
  case first =>
    rcases q0c with ⟨c1, c2⟩ | ⟨c1, c2⟩
    all_goals (go_wp2_with fail; go_meet; exact ⟨by simp [*], rfl⟩)
  case rest =>
  obtain ⟨rfl, rfl⟩ := hcut
  clear q0c q0q
  go_upto_if 27 with fail
  go_cut [9] from 20 (fun v wx => v = .int .i64 (nn : Int) ∧ w1 = wx)
  case first =>
    rcases q1c with ⟨c1, c2⟩ | ⟨c1, c2⟩
    all_goals (go_wp2_with fail; go_meet; exact ⟨by simp [*], rfl⟩)
  case rest =>
  obtain ⟨rfl, rfl⟩ := hcut
  clear q1c q1q
  go_upto_if 33 with fail
  go_cut [10] from 20 (fun v wx => v = .int .i64 (m : Int) ∧ w1 = wx)
  case first =>
    rcases q2c with ⟨c1, c2⟩ | ⟨c1, c2⟩
    all_goals (go_wp2_with fail; go_meet; exact ⟨by simp [*], rfl⟩)
  case rest =>
  obtain ⟨rfl, rfl⟩ := hcut
  clear q2c q2q
  go_wp2_with (go_at_call 9; (with_reducible refine (knw _).mono ?_); rintro e w2 ⟨b, mm, rfl, hH2, hb2⟩; (rw [HCAP.out] at hH2); (have H2 := Lib.hid hH2); (have HB2 := Lib.hid (bel_next HB1.out hb2)); (have HBX := Lib.hid HB1.out.size); clear hb2 hH2)
  go_loopg [12, 13] m (fun g l i wr => ∃ j : Nat, j + g = m ∧ i = .int .i64 (j : Int) ∧ Hid (BdJ w wr w1.heap.size b mm kk j 0 0 l []))
  case atStart => exact ⟨0, by omega, rfl, Lib.hid ⟨H2.out, rfl, (fun x hx => by cases hx), HB2.out, IRow.nil _ _⟩⟩
  case round =>
    obtain ⟨j, hj, rfl, HJ⟩ := hrel
    obtain ⟨w3, hw3⟩ : ∃ x, x = wr := ⟨_, rfl⟩
    subst hw3
    obtain ⟨a5, c5, rfl⟩ := HJ.out.row.slice
    rw [lmK_len] at HJ ⊢
    cases gk with
    | succ g =>
      have hjm : (j : Int) < (m : Int) := by omega
      have hsz := Nat.le_trans HJ.out.at_.lo (Nat.le_of_lt HJ.out.at_.lt)
      go_wp2_with (at_builtin; refine wpList_irow (w := w3) rfl _ _ rfl w1.heap.size (.slice a5 j c5) (lmK j) rfl (j : Int) rfl HJ.out.row hsz ?hl ?_; (case hl => (rw [lmK_len]; omega)); intro v4 w4 hr4 hb4 G4; (have HR4 := Lib.hid hr4); (have HG4 := Lib.hid G4); clear hr4 hb4 G4)
      go_roundg g
      case measure => omega
      case rel =>
        refine ⟨j + 1, by omega, by go_num, Lib.hid ⟨?_, rfl, (fun x hx => by cases hx), ?_, by rw [lmK_snoc]; exact HR4.out⟩⟩
        · exact HJ.out.at_.irow HJ.out.row HG4.out
        · exact Grew.below' HG4.out HJ.out.bel HJ.out.row HBX.out
    | zero =>
      obtain rfl : j = m := by omega
      have hjm : ¬ (j : Int) < (j : Int) := by omega
      clear hj
      go_wp2
      go_loopw [14, 15, 16] (fun s14 i s16 wr => ∃ (i' has : Nat) (L : List Hk), i' ≤ nn ∧ has ≤ kk ∧ i = .int .i64 (i' : Int) ∧ s14 = .int .i64 (has : Int) ∧ Hid (BdJ w wr w1.heap.size b mm kk j i' has (.slice a5 j c5) L)) (fun _ i _ _ => nn - (intOf i).toNat)
      case atStart => exact ⟨0, 0, [], by omega, by omega, rfl, rfl, HJ⟩
      case round =>
        obtain ⟨i, has, L, hi, hhas, rfl, rfl, HK⟩ := hrel
        obtain ⟨w5, hw5⟩ : ∃ x, x = wr := ⟨_, rfl⟩
        subst hw5
        by_cases hin : i < nn
        · have hin2 : (i : Int) < (nn : Int) := by omega
          have hpf := pp_fits (i : Int) (i64_of (by omega) (by omega))
          have kadd : ∀ W, BdJ w W w1.heap.size b mm kk j i has (.slice a5 j c5) L → Calls Try.prog 16 #[.pointer (some ⟨b, 0, none⟩), .agg #[.string ⟨#[97]⟩, .int .i64 (i : Int), .int .i64 0, .int .i64 1, .int .i64 0, .int .i64 1], .slice a5 j c5] W (AddDone W w1.heap.size b (some mm) (kk : Int) L (PP i) (lmK j)) := fun W hK => add_is hK.at_ (PP i) hpf (by show (1 : Nat) ≤ _; decide) _ (lmK j) (irow_ns hK.row (lmK_wide hm) (by rw [lmK_len]; omega))
          have HOK := Lib.hid (show addOk L (kk : Int) (PP i) (lmK j) = decide (has + j ≤ kk) by
            unfold addOk
            rw [pp_err i (by omega), bd_fresh HK.out.new hm, HK.out.len]
            simp only [decide_true, Bool.true_and]
            rw [decide_eq_decide]; omega)
          have HOW := Lib.hid (bd_owed_no HK.out.new)
          have HOY := Lib.hid (bd_owed_yes HK.out.new hm)
          have HFL := Lib.hid (bd_fresh HK.out.new hm)
          have kow : ∀ (L' : List Hk) (W : World), HiAt W w1.heap.size b (some mm) (kk : Int) L' → Calls Try.prog 22 #[.pointer (some ⟨b, 0, none⟩), .agg #[.string ⟨#[97]⟩, .int .i64 (i : Int), .int .i64 0, .int .i64 1, .int .i64 0, .int .i64 1]] W (IDone (owedL L' (PP i)) W) := fun L' W h => owed_is h (PP i) fun k hk => pp_big i k (i64_of (by omega) (by omega)) (i64_of (by omega) (by omega))
          have hw1 : IntKind.i64.wrap ((has : Int) + (j : Int)) = (has : Int) + (j : Int) := by rw [IntKind.wrap_i64]; omega
          by_cases hle : has + j ≤ kk
          · have hleI : (has : Int) + (j : Int) ≤ (kk : Int) := by omega
            have hw2 : IntKind.i64.wrap ((kk : Int) - ((has : Int) + (j : Int))) = (kk : Int) - ((has : Int) + (j : Int)) := by rw [IntKind.wrap_i64]; omega
            have HO := Lib.hid (show addOk L (kk : Int) (PP i) (lmK j) = true by rw [HOK.out]; exact decide_eq_true hle)
            have HLN := Lib.hid (show (((L ++ freshL L (PP i) (lmK j)).length : Nat) : Int) = (has : Int) + (j : Int) by rw [List.length_append, HFL.out, HK.out.len]; omega)
            by_cases hj0 : j = 0
            · have hjn : ((j : Int) != 0) = false := by simp [hj0]
              have HJ0 := Lib.hid hj0
              clear hj0
              go_wp2_with (first
                | (go_at_call 22; (have kk2 := kow _ _ HY13.out.at_); (with_reducible refine kk2.mono ?_); rintro e w14 ⟨v14, rfl, hR14, hb14⟩; (have HY9 := Lib.hid (HY13.out.later hb14)); (obtain ⟨a14, c14, rfl⟩ := hR14.slice); (rw [HOY.out]); clear hb14 hR14 kk2)
                | (go_at_call 29; (have H12c := HY12.out); (with_reducible refine (kp i _).mono ?_); rintro e w13 ⟨rfl, hb13⟩; (have HY13 := Lib.hid (HY12.out.later hb13)); clear hb13 H12c)
                | (go_at_call 22; (have kk2 := kow _ _ HY11.out.at_); (with_reducible refine kk2.mono ?_); rintro e w12 ⟨v12, rfl, hR12, hb12⟩; (have HY12 := Lib.hid (HY11.out.later hb12)); (obtain ⟨a12, c12, rfl⟩ := hR12.slice); (rw [HOY.out]); clear hb12 hR12 kk2)
                | (go_at_call 29; (have H10c := HY10.out); (with_reducible refine (kp i _).mono ?_); rintro e w11 ⟨rfl, hb11⟩; (have HY11 := Lib.hid (HY10.out.later hb11)); clear hb11 H10c)
                | (go_at_call 26; (have kk2 := room_is HY7.out.at_); (rw [HLN.out] at kk2); (with_reducible refine kk2.mono ?_); rintro e w10 ⟨rfl, hb10⟩; (have HY10 := Lib.hid (HY7.out.later hb10)); clear hb10 kk2)
                | (go_at_call 25; (have kk2 := len_is HY7.out.at_); (rw [HLN.out] at kk2); (with_reducible refine kk2.mono ?_); rintro e w8 ⟨rfl, rfl⟩; clear kk2)
                | (go_at_call 16; (have kk2 := kadd _ HK6.out); (with_reducible refine kk2.mono ?_); rintro e w7 ⟨he, hH7, hg7⟩; (rw [HO.out] at he); subst he; (have HY7 := Lib.hid (show BdJ w w7 w1.heap.size b mm kk j (i + 1) (has + j) (.slice a5 j c5) (L ++ freshL L (PP i) (lmK j)) from HK6.out.added hH7 hg7 HO.out HBX.out HFL.out)); clear hH7 hg7 kk2)
                | (go_at_call 29; (have H5c := HK.out); (with_reducible refine (kp i _).mono ?_); rintro e w6 ⟨rfl, hb6⟩; (have HK6 := Lib.hid (HK.out.later hb6)); clear hb6 H5c))
              go_roundw
              case rel => exact ⟨i + 1, has + j, _, by omega, by omega, by go_num, by go_num, HY9⟩
              case measure => simp [intOf]; omega
            · have hjn : ((j : Int) != 0) = true := by simpa using hj0
              go_wp2_with (first
                | (go_at_call 22; (have kk2 := kow _ _ HY13.out.at_); (with_reducible refine kk2.mono ?_); rintro e w14 ⟨v14, rfl, hR14, hb14⟩; (have HY9 := Lib.hid (HY13.out.later hb14)); (obtain ⟨a14, c14, rfl⟩ := hR14.slice); (rw [HOY.out]); clear hb14 hR14 kk2)
                | (go_at_call 29; (have H12c := HY12.out); (with_reducible refine (kp i _).mono ?_); rintro e w13 ⟨rfl, hb13⟩; (have HY13 := Lib.hid (HY12.out.later hb13)); clear hb13 H12c)
                | (go_at_call 22; (have kk2 := kow _ _ HY11.out.at_); (with_reducible refine kk2.mono ?_); rintro e w12 ⟨v12, rfl, hR12, hb12⟩; (have HY12 := Lib.hid (HY11.out.later hb12)); (obtain ⟨a12, c12, rfl⟩ := hR12.slice); (rw [HOY.out]); clear hb12 hR12 kk2)
                | (go_at_call 29; (have H10c := HY10.out); (with_reducible refine (kp i _).mono ?_); rintro e w11 ⟨rfl, hb11⟩; (have HY11 := Lib.hid (HY10.out.later hb11)); clear hb11 H10c)
                | (go_at_call 26; (have kk2 := room_is HY7.out.at_); (rw [HLN.out] at kk2); (with_reducible refine kk2.mono ?_); rintro e w10 ⟨rfl, hb10⟩; (have HY10 := Lib.hid (HY7.out.later hb10)); clear hb10 kk2)
                | (go_at_call 25; (have kk2 := len_is HY7.out.at_); (rw [HLN.out] at kk2); (with_reducible refine kk2.mono ?_); rintro e w8 ⟨rfl, rfl⟩; clear kk2)
                | (go_at_call 16; (have kk2 := kadd _ HK6.out); (with_reducible refine kk2.mono ?_); rintro e w7 ⟨he, hH7, hg7⟩; (rw [HO.out] at he); subst he; (have HY7 := Lib.hid (show BdJ w w7 w1.heap.size b mm kk j (i + 1) (has + j) (.slice a5 j c5) (L ++ freshL L (PP i) (lmK j)) from HK6.out.added hH7 hg7 HO.out HBX.out HFL.out)); clear hH7 hg7 kk2)
                | (go_at_call 29; (have H5c := HK.out); (with_reducible refine (kp i _).mono ?_); rintro e w6 ⟨rfl, hb6⟩; (have HK6 := Lib.hid (HK.out.later hb6)); clear hb6 H5c))
              go_roundw
              case rel => exact ⟨i + 1, has + j, _, by omega, by omega, by go_num, by go_num, HY9⟩
              case measure => simp [intOf]; omega
          · have hleI : ¬ (has : Int) + (j : Int) ≤ (kk : Int) := by omega
            have hw2 : IntKind.i64.wrap ((kk : Int) - (has : Int)) = (kk : Int) - (has : Int) := by rw [IntKind.wrap_i64]; omega
            have HO := Lib.hid (show addOk L (kk : Int) (PP i) (lmK j) = false by rw [HOK.out]; exact decide_eq_false hle)
            have hjn : ((0 : Int) != (j : Int)) = true := by
              simp only [bne_iff_ne]; omega
            go_wp2_with (first
                | (go_at_call 22; (have kk2 := kow _ _ HY13.out.at_); (with_reducible refine kk2.mono ?_); rintro e w14 ⟨v14, rfl, hR14, hb14⟩; (have HY9 := Lib.hid (HY13.out.later hb14)); (obtain ⟨a14, c14, rfl⟩ := hR14.slice); (rw [show (owedL L (PP i)).length = 0 by rw [HOW.out]; rfl]); clear hb14 hR14 kk2)
                | (go_at_call 29; (have H12c := HY12.out); (with_reducible refine (kp i _).mono ?_); rintro e w13 ⟨rfl, hb13⟩; (have HY13 := Lib.hid (HY12.out.later hb13)); clear hb13 H12c)
                | (go_at_call 22; (have kk2 := kow _ _ HY11.out.at_); (with_reducible refine kk2.mono ?_); rintro e w12 ⟨v12, rfl, hR12, hb12⟩; (have HY12 := Lib.hid (HY11.out.later hb12)); (obtain ⟨a12, c12, rfl⟩ := hR12.slice); (rw [show (owedL L (PP i)).length = 0 by rw [HOW.out]; rfl]); clear hb12 hR12 kk2)
                | (go_at_call 29; (have H10c := HY10.out); (with_reducible refine (kp i _).mono ?_); rintro e w11 ⟨rfl, hb11⟩; (have HY11 := Lib.hid (HY10.out.later hb11)); clear hb11 H10c)
                | (go_at_call 26; (have kk2 := room_is HY7.out.at_); (rw [HK.out.len] at kk2); (with_reducible refine kk2.mono ?_); rintro e w10 ⟨rfl, hb10⟩; (have HY10 := Lib.hid (HY7.out.later hb10)); clear hb10 kk2)
                | (go_at_call 25; (have kk2 := len_is HY7.out.at_); (rw [HK.out.len] at kk2); (with_reducible refine kk2.mono ?_); rintro e w8 ⟨rfl, rfl⟩; clear kk2)
                | (go_at_call 16; (have kk2 := kadd _ HK6.out); (with_reducible refine kk2.mono ?_); rintro e w7 ⟨he, hH7, hg7⟩; (rw [HO.out] at he); subst he; (have HY7 := Lib.hid (show BdJ w w7 w1.heap.size b mm kk j (i + 1) has (.slice a5 j c5) L from HK6.out.kept_ hH7 hg7 HO.out HBX.out )); clear hH7 hg7 kk2)
                | (go_at_call 29; (have H5c := HK.out); (with_reducible refine (kp i _).mono ?_); rintro e w6 ⟨rfl, hb6⟩; (have HK6 := Lib.hid (HK.out.later hb6)); clear hb6 H5c))
            go_roundw
            case rel => exact ⟨i + 1, has, L, by omega, by omega, by go_num, rfl, HY9⟩
            case measure => simp [intOf]; omega
        · obtain rfl : i = nn := by omega
          have hin2 : ¬ (i : Int) < (i : Int) := by omega
          clear hin
          go_wp2
          go_ret
          exact ⟨rfl, HK.out.bel⟩
end hintBounds
end Go.Proofs.Ytolmhlfegllfoaa.Qu.Hi

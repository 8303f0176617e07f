/- Sending; partitions; ticks. -/
import Derived.Test.YtnjabhjcnkbgpaaNetAdd
import Derived.Lib.Strings
import Derived.Lib.Walk
import Derived.Lib.BufferWrite
import Derived.Lib.UnsafeStr
import Derived.Laws.MakeOwn
set_option maxRecDepth 20000
set_option linter.unusedSimpArgs false
set_option linter.unusedVariables false
namespace Go.Proofs.Ytnjabhjcnkbgpaa
open Go.RowKit
theorem infoU : (Try.prog.info? 5).map (fun i => (i.zero, i.size, i.bytes)) = some (some (.int .u8 0), 1, 1) := by kernel_rfl

set_option maxHeartbeats 4000000 in
set_option maxRecDepth 100000 in
theorem inner_clone (s : ByteArray) (w : World) (hlim : s.size ≤ 100000) : Calls Try.prog 55 #[.string s] w fun e w' => e = .returned (.string s) ∧ Below w.heap.size w w' := by
  rcases Nat.eq_zero_or_pos s.size with h0 | h0
  · obtain rfl : s = ⟨#[]⟩ := ByteArray.ext (Array.eq_empty_of_size_eq_zero h0)
    go_enter Try.func55, Try.ntmps55
    go_wp2
    go_ret
    exact ⟨rfl, Below.refl _ _⟩
  · obtain ⟨i0, hi, hz0, hz1, hz2⟩ := info_parts infoU
    have hone : Try.prog.cellsOf 5 = 1 := by kernel_rfl
    -- the new row
    obtain ⟨row, hrow⟩ : ∃ row, madeCells (Value.int .u8 0).cells (((s.size : Nat) : Int).toNat * i0.size) = row := ⟨_, rfl⟩
    have hrs : row.size = s.size := by rw [← hrow, size_madeCells, hz1]; simp
    have hmake : ∀ W : World, (Instr.makeSlice 50 (.int .i64 (s.size : Int)) (.int .i64 (s.size : Int))).run Try.prog W = .ok (.slice (some ⟨W.heap.size, 0, none⟩) s.size s.size) (W.alloc (.cells row 5)) := fun W => by
      have h := run_make (P := Try.prog) W 50 5 i0 (.int .u8 0) Try.underlying50 hi hz0 .i64 .i64 (s.size : Int) (s.size : Int) (by omega) (by omega) (by rw [hz2]; omega) (by omega)
      rw [hrow] at h
      simpa using h
    clear hrow
    -- the row behind the copy
    obtain ⟨cells, hcells⟩ : ∃ cells, (row.toList.take 0 ++ Lib.byteCells s.data.toList ++ row.toList.drop (0 + s.size)).toArray = cells := ⟨_, rfl⟩
    have hcopy := Lib.run_copy_row_string (P := Try.prog) (w.alloc (.cells row 5)) 50 9 3 5 w.heap.size 0 s.size s.size s row 5 Try.underlying50 (by rw [hi]; simp [hz1]) (heap_alloc_new w _) (Nat.le_refl _) (by omega)
    rw [hcells] at hcopy
    have hcl : cells.toList = Lib.byteCells s.data.toList := by
      rw [← hcells, List.take_zero, List.nil_append, List.drop_of_length_le (by simp [hrs]), List.append_nil]
    have hcs : cells.size = s.size := by rw [← Array.length_toList, hcl, Lib.byteCells_length, ← Lib.size_eq]
    have hblock : ((w.alloc (.cells row 5)).setRow w.heap.size cells).heap[w.heap.size]? = some (.cells cells 5 (0, 0)) := setRow_heap _ _ row _ 5 (0, 0) (heap_alloc_new w _)
    -- the text over it
    have htext := Lib.run_unsafeString_row (P := Try.prog) ((w.alloc (.cells row 5)).setRow w.heap.size cells) 70 3 9 5 Try.underlying70 hone w.heap.size cells.size (by unfold World.shape?; rw [hblock]) s.data.toList
      (by intro e; rw [Lib.size_eq, e] at h0; exact absurd h0 (by simp)) (by rw [← Lib.size_eq]; omega) (by rw [← Lib.size_eq]; omega)
      (fun j x hx => Lib.cells_of_row hblock cells.size j _ (by rw [List.take_of_length_le (by simp), hcl]; simp [Lib.byteCells, hx]))
    rw [← Lib.size_eq] at htext
    clear hcells hi
    go_enter Try.func55, Try.ntmps55
    go_wp2
    go_ret
    have b1 : Below w.heap.size w (w.alloc (.cells row 5)) := (Below.refl _ w).alloc (Nat.le_refl _) _
    have b2 : Below w.heap.size (w.alloc (.cells row 5)) ((w.alloc (.cells row 5)).setRow w.heap.size cells) := ⟨rfl, rfl, rfl, by simp, fun k hk => setRow_other _ _ _ _ (by omega)⟩
    exact ⟨rfl, Lib.below_freeze (b1.trans b2) (p := ⟨w.heap.size, 0, none⟩) (Nat.le_refl _) _⟩
theorem clone_is (s : ByteArray) (w : World) (hlim : s.size ≤ 100000) : Calls Try.prog 51 #[.string s] w fun e w' => e = .returned (.string s) ∧ Below w.heap.size w w' := by
  have k := inner_clone s w hlim
  go_enter Try.func51, Try.ntmps51
  go_wp2_with (go_at_call 55; (with_reducible refine k.mono ?_); rintro e w1 ⟨rfl, hB⟩; (have HB := Lib.hid hB); clear hB)
  go_ret
  exact ⟨rfl, HB.out⟩
section
variable {w : World} {B b : Nat} {V : Value} {S : NS}
theorem send_is (f t : Int) (s : ByteArray) (hs : s.size ≤ 100000) (h : NAt w B b V S) : Calls Try.prog 27 #[.pointer (some ⟨b, 0, none⟩), .int .i64 f, .int .i64 t, .string s] w (NDone B b V (sendS S f t s) (.tuple #[.int .i64 (sendN S f t s), .bool (!refuse S f t s)]) w) := by
  have kt := two_is f t w
  have kf := full_is h
  have hw := NW.refl h
  cases htw : twoB f t with
  | false =>
    have HZ := Lib.hid (show refuse S f t s = true by unfold refuse; rw [htw]; rfl)
    rw [htw] at kt
    have HW := Lib.hid hw
    clear htw h hw
    go_enter Try.func27, Try.ntmps27
    go_wp2_with (go_at_call 50; (with_reducible refine kt.mono ?_); rintro e w1 ⟨rfl, rfl⟩)
    go_ret2
    exact ⟨_, by unfold sendN; rw [HZ.out]; rfl, by unfold sendS; rw [HZ.out]; exact HW.out⟩
  | true =>
    rw [htw] at kt
    by_cases hsz : 80000 < s.size
    · have HZ := Lib.hid (show refuse S f t s = true by unfold refuse; rw [decide_eq_true hsz]; simp)
      have HW := Lib.hid hw
      have hsi : (80000 : Int) < (s.size : Int) := by omega
      clear htw h hw
      go_enter Try.func27, Try.ntmps27
      go_wp2_with (go_at_call 50; (with_reducible refine kt.mono ?_); rintro e w1 ⟨rfl, rfl⟩)
      go_ret2
      exact ⟨_, by unfold sendN; rw [HZ.out]; rfl, by unfold sendS; rw [HZ.out]; exact HW.out⟩
    · have hsi : ¬ (80000 : Int) < (s.size : Int) := by omega
      cases hfu : fullB S with
      | true =>
        have HZ := Lib.hid (show refuse S f t s = true by unfold refuse; rw [hfu]; simp)
        have HW := Lib.hid hw
        rw [hfu] at kf
        clear htw hfu h hw
        go_enter Try.func27, Try.ntmps27
        go_wp2_with (first
          | (go_at_call 50; (with_reducible refine kt.mono ?_); rintro e w1 ⟨rfl, rfl⟩)
          | (go_at_call 41; (with_reducible refine kf.mono ?_); rintro e w1 ⟨rfl, rfl⟩))
        go_ret2
        exact ⟨_, by unfold sendN; rw [HZ.out]; rfl, by unfold sendS; rw [HZ.out]; exact HW.out⟩
      | false =>
        have HZ := Lib.hid (show refuse S f t s = false by unfold refuse; rw [htw, hfu, decide_eq_false hsz]; rfl)
        rw [hfu] at kf
        have hn : S.mail.length < 2000 := by unfold fullB at hfu; simp at hfu; exact hfu
        have hen : endB f = true ∧ endB t = true := by unfold twoB at htw; simp only [Bool.and_eq_true] at htw; exact htw.1
        have kc := clone_is s w hs
        have HA := Lib.hid (fun (w1 : World) (hB : Below w.heap.size w w1) => add_is f t s (h.later hB) hen.1 hen.2 (by omega) hn)
        clear htw hfu h hw hen
        go_enter Try.func27, Try.ntmps27
        go_wp2_with (first
          | (go_at_call 50; (with_reducible refine kt.mono ?_); rintro e w1 ⟨rfl, rfl⟩)
          | (go_at_call 41; (with_reducible refine kf.mono ?_); rintro e w1 ⟨rfl, rfl⟩)
          | (go_at_call 51; (with_reducible refine kc.mono ?_); rintro e w1 ⟨rfl, hB1⟩; (have ka := HA.out w1 hB1); (have HB1 := Lib.hid hB1); clear hB1)
          | (go_at_call 42; (with_reducible refine ka.mono ?_); rintro e w2 ⟨V2, rfl, hw2⟩; (have HW2 := Lib.hid hw2); clear hw2 ka))
        go_ret2
        exact ⟨_, by unfold sendN; rw [HZ.out]; rfl, by unfold sendS; rw [HZ.out]; exact NW.ahead HB1.out HW2.out⟩
/-- Which ends are parted has turned. -/
theorem NW.par (h : NAt w B b V S) {w' : World} {q : Nat → Bool} (hb : w'.heap[b]? = some (.cells (ncells V S.last q) 54)) (ho : ∀ k, k ≠ b → w'.heap[k]? = w.heap[k]?) (e1 : w'.os = w.os) (e2 : w'.tape = w.tape) (e3 : w'.output = w.output) (e4 : w'.heap.size = w.heap.size) : NW w w' B b V V { S with par := q } :=
  ⟨⟨hb, row_of h.row fun k hk => ho k fun e => h.own (by rw [hk, e]), h.base, h.len, h.ends⟩, ⟨e1, e2, e3, Nat.le_of_eq e4.symm, fun k _ hn => ho k fun e => hn (Or.inl e)⟩, fun _ e => Or.inl e⟩
theorem turn_set (par : Nat → Bool) (x y : Nat) (v : Bool) : (fun j => if j = y * 64 + x then v else if j = x * 64 + y then v else par j) = turnP par (x : Int) (y : Int) v := by
  funext j
  unfold turnP
  rw [spot_nat, spot_nat]
  by_cases h1 : j = y * 64 + x
  · rw [if_pos h1, if_pos (Or.inr h1)]
  · rw [if_neg h1]
    by_cases h2 : j = x * 64 + y
    · rw [if_pos h2, if_pos (Or.inl h2)]
    · rw [if_neg h2, if_neg (by rintro (e | e) <;> contradiction)]
theorem NW.turn (h : NAt w B b V S) {x y : Nat} (v : Bool) (hx : x < 64) (hy : y < 64) : NW w ((w.setCell ⟨b, 2 + (x * 64 + y), none⟩ (.bool v)).setCell ⟨b, 2 + (y * 64 + x), none⟩ (.bool v)) B b V V { S with par := turnP S.par (x : Int) (y : Int) v } := by
  have h1 := heap_setCell_same w b (2 + (x * 64 + y)) _ _ (.bool v) h.hb
  rw [ncells_set _ _ _ _ _ (spot_lt hx hy)] at h1
  have h2 := heap_setCell_same _ b (2 + (y * 64 + x)) _ _ (.bool v) h1
  rw [ncells_set _ _ _ _ _ (spot_lt hy hx), turn_set] at h2
  exact NW.par h h2 (fun k hk => by rw [heap_setCell_other _ _ _ _ hk, heap_setCell_other _ _ _ _ hk]) rfl rfl rfl (by simp)
theorem set_is (x y : Int) (v : Bool) (h : NAt w B b V S) : Calls Try.prog 43 #[.pointer (some ⟨b, 0, none⟩), .int .i64 x, .int .i64 y, .bool v] w (NDone B b V (setS S x y v) (.bool (!sameAs S x y v)) w) := by
  have kt := two_is x y w
  have hw := NW.refl h
  cases htw : twoB x y with
  | false =>
    have HZ := Lib.hid (show sameAs S x y v = true by unfold sameAs; rw [htw]; rfl)
    rw [htw] at kt
    have HW := Lib.hid hw
    clear htw h hw
    go_enter Try.func43, Try.ntmps43
    go_wp2_with (go_at_call 50; (with_reducible refine kt.mono ?_); rintro e w1 ⟨rfl, rfl⟩)
    go_ret
    exact ⟨_, by rw [HZ.out]; rfl, by unfold setS; rw [HZ.out]; exact HW.out⟩
  | true =>
    obtain ⟨i, j, rfl, rfl, hi, hj, hij⟩ := twoB_yes htw
    rw [htw] at kt
    obtain ⟨p, hp⟩ : ∃ p, S.par (i * 64 + j) = p := ⟨_, rfl⟩
    have d := h.cp (spot_lt hi hj)
    have d2 := h.cp (spot_lt hj hi)
    have e1 := h.fz (2 + i * 64 + j)
    have e2 := h.fz (2 + j * 64 + i)
    rw [hp, ← Nat.add_assoc] at d
    rw [← Nat.add_assoc] at d2
    have h1 : (i : Int) < 64 := by omega
    have h2 : (j : Int) < 64 := by omega
    have HS := Lib.hid (show sameAs S i j v = (p == v) by unfold sameAs; rw [htw, spot_nat, hp]; rfl)
    by_cases hpv : p = v
    · have HZ := Lib.hid (show sameAs S i j v = true by rw [HS.out]; simpa using hpv)
      have HW := Lib.hid hw
      subst hpv
      clear htw h hw hp d2 e1 e2
      cases p <;>
      · go_enter Try.func43, Try.ntmps43
        go_wp2_with (go_at_call 50; (with_reducible refine kt.mono ?_); rintro e w1 ⟨rfl, rfl⟩)
        go_ret
        exact ⟨_, by rw [HZ.out]; rfl, by unfold setS; rw [HZ.out]; exact HW.out⟩
    · have HZ := Lib.hid (show sameAs S i j v = false by rw [HS.out]; simpa using hpv)
      have HW := Lib.hid (NW.later (w'' := ((w.setCell ⟨b, 2 + (i * 64 + j), none⟩ (.bool v)).setCell ⟨b, 2 + (j * 64 + i), none⟩ (.bool v)).drew) (NW.turn h v hi hj) (Below.refl _ _).drew)
      have HW' := Lib.hid (NW.later (w'' := ((w.setCell ⟨b, 2 + (j * 64 + i), none⟩ (.bool v)).setCell ⟨b, 2 + (i * 64 + j), none⟩ (.bool v)).drew) (NW.turn h v hj hi) (Below.refl _ _).drew)
      obtain ⟨q, hq⟩ : ∃ q, S.par (j * 64 + i) = q := ⟨_, rfl⟩
      rw [hq] at d2
      have hsw : turnP S.par (j : Int) (i : Int) v = turnP S.par (i : Int) (j : Int) v := by
        unfold turnP; funext k; by_cases e1 : k = spot (j : Int) (i : Int) <;> by_cases e2 : k = spot (i : Int) (j : Int) <;> simp only [e1, e2, or_true, true_or, if_true, or_false, false_or]
      rw [hsw] at HW'
      rw [show 2 + (i * 64 + j) = 2 + i * 64 + j by omega, show 2 + (j * 64 + i) = 2 + j * 64 + i by omega] at HW HW'
      have hne : ¬ 2 + i * 64 + j = 2 + j * 64 + i := by omega
      have hne2 : ¬ 2 + j * 64 + i = 2 + i * 64 + j := by omega
      clear htw h hw hp hq hsw hij
      cases p <;> cases v <;> first
      | exact absurd rfl hpv
      | (clear hpv
         go_enter Try.func43, Try.ntmps43
         go_wp2_with (first
           | (go_at_call 50; (with_reducible refine kt.mono ?_); rintro e w1 ⟨rfl, rfl⟩)
           | fail)
         go_region
         all_goals go_wp2
         all_goals (go_ret; exact ⟨_, by rw [HZ.out]; rfl, by unfold setS; rw [HZ.out]; first | exact HW.out | exact HW'.out⟩))
theorem part_is (x y : Int) (h : NAt w B b V S) : Calls Try.prog 17 #[.pointer (some ⟨b, 0, none⟩), .int .i64 x, .int .i64 y] w (NDone B b V (setS S x y true) (.bool (!sameAs S x y true)) w) := by
  have k := set_is x y true h
  clear h
  go_enter Try.func17, Try.ntmps17
  go_wp2_with (go_at_call 43; (with_reducible refine k.mono ?_); rintro e w1 ⟨V1, rfl, hw⟩; (have HW := Lib.hid hw); clear hw)
  go_ret
  exact ⟨_, rfl, HW.out⟩
theorem join_is (x y : Int) (h : NAt w B b V S) : Calls Try.prog 19 #[.pointer (some ⟨b, 0, none⟩), .int .i64 x, .int .i64 y] w (NDone B b V (setS S x y false) (.bool (!sameAs S x y false)) w) := by
  have k := set_is x y false h
  clear h
  go_enter Try.func19, Try.ntmps19
  go_wp2_with (go_at_call 43; (with_reducible refine k.mono ?_); rintro e w1 ⟨V1, rfl, hw⟩; (have HW := Lib.hid hw); clear hw)
  go_ret
  exact ⟨_, rfl, HW.out⟩
end
end Go.Proofs.Ytnjabhjcnkbgpaa

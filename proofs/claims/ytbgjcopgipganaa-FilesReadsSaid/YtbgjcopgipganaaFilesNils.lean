/- Methods of no directory, and of one without power. -/
import Derived.Test.YtbgjcopgipganaaFilesAwake
set_option maxRecDepth 20000
set_option linter.unusedSimpArgs false
namespace Go.Proofs.Ytbgjcopgipganaa
open Go.RowKit Go.Maps Go.Shelf

theorem check_nil (v : Value) (w : World) : Calls Try.prog 39 #[.pointer none, v] w fun e w' => e = .returned (.int .i64 1) ∧ w = w' := by
  go_enter Try.func39, Try.ntmps39
  go_wp2
  go_ret
  exact ⟨rfl, rfl⟩
theorem find_nil (s : ByteArray) (w : World) : Calls Try.prog 47 #[.pointer none, .string s, .slice none 0 0] w fun e w' => e = .returned (.tuple #[.pointer none, .int .i64 1]) ∧ Below w.heap.size w w' := by
  go_enter Try.func47, Try.ntmps47
  go_wp2_with (first
    | (at_builtin; refine wpList_name rfl _ _ rfl s rfl rfl ?_; intro v1 w1 hr1 hb1; (have kc1 := check_nil v1 w1); (have HB1 := Lib.hid hb1); clear hr1 hb1)
    | (go_at_call 39; (with_reducible refine kc1.mono ?_); rintro e w2 ⟨rfl, rfl⟩; clear kc1))
  go_ret2
  exact ⟨rfl, HB1.out⟩
theorem row_lit (w : World) (s : ByteArray) : (w.alloc (.cells #[.string s] 9)).ownsRow w.heap.size 9 1 (.slice (some ⟨w.heap.size, 0, none⟩) 1 1) 1 [.string s] :=
  World.ownsRow_lit w #[.string s] 1 (Nat.le_refl _) (by decide) rfl
/-- A name appended to one name. -/
theorem wpList_name1 {w : World} {ops : Array Oper} {rest : List Oper} {o : Oper} {a : Act} {Q : Exit → Act → World → Prop} (hgd : o.guard = none) (sl x : Operand)
    (ho : o.op = .call { callee := .builtin .append, args := #[sl, x], argTypes := #[47, 47] })
    (s t : ByteArray) (hs : a.eval sl = .slice (some ⟨w.heap.size, 0, none⟩) 1 1) (hx : a.eval x = .slice (some ⟨w.heap.size + 1, 0, none⟩) 1 1)
    (h : ∀ v' w', sRow w' w.heap.size v' [t, s] → Below w.heap.size w w' → wpList Try.prog ops Q rest (a.put o.dst v') w') : wpList Try.prog ops Q (o :: rest) a ((w.alloc (.cells #[.string t] 9)).alloc (.cells #[.string s] 9)) := by
  obtain ⟨i0, hi, hz0, hz1, hz2⟩ := info_parts infoS
  refine wpList_append_own_at (w := (w.alloc (.cells #[.string t] 9)).alloc (.cells #[.string s] 9)) hgd sl x 47 ho w.heap.size 9 i0 (.string ⟨#[]⟩) 1 16 Try.underlying47 hi hz0 hz1 hz2 rfl (by decide) (.slice (some ⟨w.heap.size, 0, none⟩) 1 1) 1 [.string t] hs ((row_lit w t).alloc _) ⟨w.heap.size + 1, 0, none⟩ 1 1 [.string s] hx rfl ?_ ?_ (by unfold maxLen; omega) (by omega) (by simp; omega) ?_
  · intro j u hj
    match j, hj with
    | 0, hj =>
      simp at hj; subst hj
      have := (new_file w #[.string t] #[.string s] 9 9).2
      rw [show (⟨w.heap.size + 1, 0, none⟩ : Addr).add 0 = ⟨w.heap.size + 1, 0, none⟩ from rfl, cell_of this]; rfl
  · intro u hu; simp at hu; subst hu; rfl
  · intro v' w' h2 h3 _ h4
    refine h v' w' h2 ?_
    exact (((Below.refl w.heap.size w).alloc (Nat.le_refl _) _).alloc (by simp) _).grown h3 (by simp; omega) (fun q hq => by simp [Value.ownBlock] at hq; omega)
theorem find_nil2 (s t : ByteArray) (W : World) : Calls Try.prog 47 #[.pointer none, .string s, .slice (some ⟨W.heap.size, 0, none⟩) 1 1] (W.alloc (.cells #[.string t] 9)) fun e w' => e = .returned (.tuple #[.pointer none, .int .i64 1]) ∧ Below W.heap.size W w' := by
  go_enter Try.func47, Try.ntmps47
  go_wp2_with (first
    | (at_builtin; refine wpList_name1 (w := W) rfl _ _ rfl s t rfl rfl ?_; intro v1 w1 hr1 hb1; (have kc1 := check_nil v1 w1); (have HB1 := Lib.hid hb1); clear hr1 hb1)
    | (go_at_call 39; (with_reducible refine kc1.mono ?_); rintro e w2 ⟨rfl, rfl⟩; clear kc1))
  go_ret2
  exact ⟨rfl, HB1.out⟩
theorem create_nil (s : ByteArray) (w : World) : Calls Try.prog 14 #[.pointer none, .string s] w fun e w' => e = .returned (.int .i64 1) ∧ Below w.heap.size w w' := by
  have hB := Lib.hid (((Below.refl w.heap.size w).alloc (Nat.le_refl _) (.cells #[.string s] 9)).alloc (by simp) (.cells #[.string s] 9))
  go_enter Try.func14, Try.ntmps14
  go_wp2_with (go_at_call 39; (with_reducible refine (check_nil _ _).mono ?_); rintro e w1 ⟨rfl, rfl⟩)
  go_ret
  exact ⟨rfl, hB.out⟩
theorem append_nil (s t : ByteArray) (w : World) : Calls Try.prog 30 #[.pointer none, .string s, .string t] w fun e w' => e = .returned (.int .i64 1) ∧ Below w.heap.size w w' := by
  go_enter Try.func30, Try.ntmps30
  go_wp2_with (go_at_call 47; (with_reducible refine (find_nil _ _).mono ?_); rintro e w1 ⟨rfl, hB⟩; (have HB := Lib.hid hB); clear hB)
  go_ret
  exact ⟨rfl, HB.out⟩
theorem sync_nil (s : ByteArray) (w : World) : Calls Try.prog 16 #[.pointer none, .string s] w fun e w' => e = .returned (.int .i64 1) ∧ Below w.heap.size w w' := by
  go_enter Try.func16, Try.ntmps16
  go_wp2_with (go_at_call 47; (with_reducible refine (find_nil _ _).mono ?_); rintro e w1 ⟨rfl, hB⟩; (have HB := Lib.hid hB); clear hB)
  go_ret
  exact ⟨rfl, HB.out⟩
theorem read_nil (s : ByteArray) (w : World) : Calls Try.prog 32 #[.pointer none, .string s] w fun e w' => e = .returned (.tuple #[.string ⟨#[]⟩, .int .i64 1]) ∧ Below w.heap.size w w' := by
  go_enter Try.func32, Try.ntmps32
  go_wp2_with (go_at_call 47; (with_reducible refine (find_nil _ _).mono ?_); rintro e w1 ⟨rfl, hB⟩; (have HB := Lib.hid hB); clear hB)
  go_ret2
  exact ⟨rfl, HB.out⟩
theorem delete_nil (s : ByteArray) (w : World) : Calls Try.prog 18 #[.pointer none, .string s] w fun e w' => e = .returned (.int .i64 1) ∧ Below w.heap.size w w' := by
  have HB0 := Lib.hid (bel_al w (.cells #[.string s] 9))
  go_enter Try.func18, Try.ntmps18
  go_wp2_with (go_at_call 47; (with_reducible refine (find_nil _ _).mono ?_); rintro e w1 ⟨rfl, hB⟩; (have HB := Lib.hid hB); clear hB)
  go_ret
  exact ⟨rfl, bel_next HB0.out HB.out⟩
theorem rename_nil (s t : ByteArray) (w : World) : Calls Try.prog 20 #[.pointer none, .string s, .string t] w fun e w' => e = .returned (.int .i64 1) ∧ Below w.heap.size w w' := by
  have HB0 := Lib.hid (bel_next (bel_al w (.cells #[.string s] 9)) (bel_al _ (.cells #[.string t] 9)))
  have k := find_nil2 s t ((w.alloc (.cells #[.string s] 9)).alloc (.cells #[.string t] 9))
  have hz : ((w.alloc (.cells #[.string s] 9)).alloc (.cells #[.string t] 9)).heap.size = w.heap.size + 1 + 1 := by simp
  rw [hz] at k
  clear hz
  go_enter Try.func20, Try.ntmps20
  go_wp2_with (go_at_call 47; (with_reducible refine k.mono ?_); rintro e w1 ⟨rfl, hB⟩; (have HB := Lib.hid hB); clear hB)
  go_ret
  exact ⟨rfl, HB0.out.trans (HB.out.mono (by omega))⟩
theorem syncdir_nil (w : World) : Calls Try.prog 22 #[.pointer none] w fun e w' => e = .returned (.int .i64 1) ∧ Below w.heap.size w w' := by
  go_enter Try.func22, Try.ntmps22
  go_wp2_with (go_at_call 39; (with_reducible refine (check_nil _ _).mono ?_); rintro e w1 ⟨rfl, rfl⟩)
  go_ret
  exact ⟨rfl, Below.refl _ _⟩
theorem names_nil (w : World) : Calls Try.prog 35 #[.pointer none] w fun e w' => e = .returned (.slice none 0 0) ∧ Below w.heap.size w w' := by
  go_enter Try.func35, Try.ntmps35
  go_wp2
  go_ret
  exact ⟨rfl, Below.refl _ _⟩
theorem used_nil (w : World) : Calls Try.prog 36 #[.pointer none] w fun e w' => e = .returned (.int .i64 0) ∧ Below w.heap.size w w' := by
  go_enter Try.func36, Try.ntmps36
  go_wp2
  go_ret
  exact ⟨rfl, Below.refl _ _⟩
theorem on_nil (w : World) : Calls Try.prog 38 #[.pointer none] w fun e w' => e = .returned (.bool false) ∧ Below w.heap.size w w' := by
  go_enter Try.func38, Try.ntmps38
  go_wp2
  go_ret
  exact ⟨rfl, Below.refl _ _⟩
theorem arm_nil (n : Int) (w : World) : Calls Try.prog 26 #[.pointer none, .int .i64 n] w fun e w' => e = .returned (.tuple #[]) ∧ Below w.heap.size w w' := by
  go_enter Try.func26, Try.ntmps26
  go_wp2
  go_end0
  exact ⟨rfl, Below.refl _ _⟩
theorem limit_nil (n : Int) (w : World) : Calls Try.prog 28 #[.pointer none, .int .i64 n] w fun e w' => e = .returned (.tuple #[]) ∧ Below w.heap.size w w' := by
  go_enter Try.func28, Try.ntmps28
  go_wp2
  go_end0
  exact ⟨rfl, Below.refl _ _⟩
theorem crash_nil (v : Value) (w : World) : Calls Try.prog 24 #[.pointer none, v] w fun e w' => e = .returned (.tuple #[]) ∧ Below w.heap.size w w' := by
  go_enter Try.func24, Try.ntmps24
  go_wp2
  (try simp only [Exit.inBlock, Exit.then]); refine bodyPost_ret (results_none rfl _ _ _) rfl ?_
  exact ⟨rfl, Below.refl _ _⟩
theorem create_off (b : Nat) (S : FS) (L : Lay) (n : ByteArray) (w : World) (h : FsAt w b S L) (hon : S.on = false) (hn : n.size ≤ maxLen) : Calls Try.prog 14 #[.pointer (some ⟨b, 0, none⟩), .string n] w fun e w' => e = .returned (.int .i64 14) ∧ Below w.heap.size w w' := by
  have hB1 := ((Below.refl w.heap.size w).alloc (Nat.le_refl _) (.cells #[.string n] 9)).alloc (by simp) (.cells #[.string n] 9)
  have kc := check_is b S L _ [n] _ (h.later hB1) (lit_ss1 w n hn)
  rw [show checkS S [n] = 14 by unfold checkS; rw [if_pos hon]] at kc
  have HB1 := Lib.hid hB1
  clear h hB1
  go_enter Try.func14, Try.ntmps14
  go_wp2_with (go_at_call 39; (with_reducible refine kc.mono ?_); rintro e w1 ⟨rfl, rfl⟩)
  go_ret
  exact ⟨rfl, HB1.out⟩
end Go.Proofs.Ytbgjcopgipganaa

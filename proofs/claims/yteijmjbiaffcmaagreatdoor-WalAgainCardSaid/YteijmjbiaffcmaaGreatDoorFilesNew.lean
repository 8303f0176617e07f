/- New; a change done and kept. -/
import Derived.Test.YteijmjbiaffcmaaGreatDoorFilesMoves
import Derived.Laws.EntriesVeiled
set_option maxRecDepth 20000
set_option linter.unusedSimpArgs false
namespace Go.Proofs.YteijmjbiaffcmaaGreatDoor.Fi
open Go.RowKit Go.Maps Go.Shelf

def emptyS (room : Int) : FS := ⟨room, [], [], [], true, false, 0, []⟩
def emptyL (n : Nat) : Lay := ⟨some n, none, .slice none 0 0, fun _ => .slice none 0 0, []⟩
theorem map_made (w : World) : MapIs (w.alloc (.map #[] 0)) w.heap.size [] := World.ownsMap_made w Tryz.prog 9 ptrR
theorem fs_made (w : World) (n : Nat) (hn : n = w.heap.size) : FsAt ((w.alloc (.map #[] 0)).alloc (.cells (headV (emptyS 0) (emptyL n)) 79)) (n + 1) (emptyS 0) (emptyL n) := by
  subst hn
  have hm : MapIs ((w.alloc (.map #[] 0)).alloc (.cells (headV (emptyS 0) (emptyL w.heap.size)) 79)) w.heap.size [] := (map_made w).of_heap (Below.heap_alloc _ _ _ (by simp))
  refine ⟨?_, Or.inr ⟨_, rfl, hm⟩, Or.inl ⟨rfl, rfl⟩, Or.inr (by intro e; cases e), World.ownsRow_nil _ _ _ _, rfl, fun p hp => (by simp [emptyS] at hp), fun f hf => (by simp [emptyS] at hf), fun f hf => (by simp [emptyS] at hf)⟩
  have := heap_alloc_new (w.alloc (.map #[] 0)) (.cells (headV (emptyS 0) (emptyL w.heap.size)) 79)
  simpa using this
theorem mods_made (n k : Nat) (h : mods (n + 1) (emptyS 0) (emptyL n) k) : n ≤ k := by
  rcases h with h | h | h | h | ⟨f, hf, _⟩
  · omega
  · injection h with h; omega
  · cases h
  · cases h
  · simp [emptyS] at hf
/-- A new directory. -/
def NewDone (S : FS) (w : World) (e : Ending) (w' : World) : Prop := ∃ b L, e = .returned (.pointer (some ⟨b, 0, none⟩)) ∧ FsAt w' b S L ∧ Below w.heap.size w w' ∧ ∀ k, mods b S L k → w.heap.size ≤ k
theorem new_is (n : Int) (w : World) : Calls Tryz.prog 17 #[.int .i64 n] w (NewDone (emptyS (roomI n)) w) := by
  have hf := fs_made w w.heap.size rfl
  have hB := ((Below.refl w.heap.size w).alloc (Nat.le_refl _) (.map #[] 0)).alloc (by simp) (.cells (headV (emptyS 0) (emptyL w.heap.size)) 79)
  have hmm := @run_makeMap Tryz.prog
  have kl := limit_is (w.heap.size + 1) (emptyS 0) (emptyL w.heap.size) n _ hf
  have HF := Lib.hid hf
  have HB := Lib.hid hB
  have HM := Lib.hid (mods_made w.heap.size)
  clear hf hB
  go_enter Tryz.func17, Tryz.ntmps17
  go_wp2_with (go_at_call 27; (refine kl.mono ?_); rintro e w1 ⟨rfl, hW⟩; (have HW := Lib.hid hW); clear hW kl)
  go_ret
  refine ⟨_, _, rfl, HW.out.at_, HB.out.trans (HW.out.frm.below HB.out.size HM.out), fun k hk => ?_⟩
  rcases HW.out.sub k hk with h | h
  · exact HM.out k h
  · exact Nat.le_trans HB.out.size h
theorem infoFp : ∃ i0, Tryz.prog.info? 93 = some i0 ∧ i0.zero = some .nilFunc ∧ i0.size = 1 ∧ i0.bytes = 8 := info_parts infoF
/-- A function value appended to the changes. -/
theorem wpList_chg {w : World} {ops : Array Oper} {rest : List Oper} {o : Oper} {a : Act} {Q : Exit → Act → World → Prop} (hgd : o.guard = none) (sl x : Operand)
    (ho : o.op = .call { callee := .builtin .append, args := #[sl, x], argTypes := #[77, 77] })
    (v : Value) (n : Nat) (xs : List Value) (hs : a.eval sl = v) (fv : Value) (hone : fv.oneCell' = true) (hx : a.eval x = .slice (some ⟨w.heap.size, 0, none⟩) 1 1) (hown : w.ownsRow 0 93 1 v n xs) (hl : n ≤ 1000000)
    (h : ∀ v' w', w'.ownsRow 0 93 1 v' (n + 1) (xs ++ [fv]) → w.grownBy w' v.ownBlock → (v'.ownBlock = v.ownBlock ∨ ∃ g, v'.ownBlock = some g ∧ w.heap.size ≤ g) → wpList Tryz.prog ops Q rest (a.put o.dst v') w') : wpList Tryz.prog ops Q (o :: rest) a (w.alloc (.cells #[fv] 93)) := by
  obtain ⟨i0, hi, hz0, hz1, hz2⟩ := infoFp
  have hr : (w.alloc (.cells #[fv] 93)).ownsRow 0 93 1 v n xs := row_of hown fun k e => by
    obtain ⟨cur, hh⟩ := row_heap hown e
    exact Below.heap_alloc _ _ k (Array.getElem?_eq_some_iff.1 hh).1
  refine wpList_append_own_at (w := w.alloc (.cells #[fv] 93)) hgd sl x 77 ho 0 93 i0 .nilFunc 1 8 Tryz.underlying77 hi hz0 hz1 hz2 rfl (by decide) v n xs hs hr ⟨w.heap.size, 0, none⟩ 1 1 [fv] hx rfl ?_ ?_ (by unfold maxLen; omega) (by omega) (by simp) ?_
  · intro j u hj
    match j, hj with
    | 0, hj => simp at hj; subst hj; simp [Addr.add]
  · intro u hu; simp at hu; subst hu; exact hone
  · intro v' w' h2 h3 _ h4
    refine h v' w' h2 ((World.grownBy_alloc w _ _).trans h3) ?_
    rcases h4 with h4 | h4
    · exact Or.inl h4
    · exact Or.inr ⟨_, h4, by simp⟩
def doS (S : FS) (c : Chg) : FS := { S with now := c.doM S.now, chg := S.chg ++ [c] }
set_option maxHeartbeats 1000000 in
theorem change_mk_is (b bm : Nat) (S : FS) (L : Lay) (n : Nm) (q : Nat) (p : Nat × Nat) (w : World) (h : FsAt w b S L) (hn : L.bn = some bm) (hS : S.now.length ≤ 64) (hchg : S.chg.length ≤ 1000000) (hl : 0 ≤ S.left ∧ S.left ≤ 9223372036854775807) (hc : CapIs w (Chg.mk n q) p) (hok : ((Chg.mk n q)).okM S.now) :
    Calls Tryz.prog 110 #[.pointer (some ⟨b, 0, none⟩), chgV (Chg.mk n q) p] w fun e w' => ∃ L', e = .returned (.int .i64 (tell (stepS (doS S (Chg.mk n q))).1)) ∧ Went w w' b S (stepS (doS S (Chg.mk n q))).2 L L' ∧ L'.bn = L.bn ∧ L'.V = L.V := by
  obtain ⟨-, c1, -, c3, -⟩ := h.cells
  have hok2 := And.intro hok hS
  rw [hn] at c1
  have hm : MapIs w bm S.now := by
    rcases h.now with ⟨e, _⟩ | ⟨b2, e, hm⟩
    · rw [hn] at e; cases e
    · rw [hn] at e; injection e with e; subst e; exact hm
  obtain ⟨s, hs1, hs2, hs3⟩ := hc.2
  have kd := mk_is bm p.1 p.2 q s S.now w hm (by omega) (by unfold maxLen; omega) (cell_of hc.1) (cell_of hs3)
  rw [hs1] at kd
  have HW0 := Lib.hid (fun w' (hM : MapIs w' bm (((Chg.mk n q)).doM S.now)) (hg : w.grownBy w' (some bm)) => h.remap hn hM hg)
  have HC := Lib.hid hc
  have hbm : bm ≠ b := by
    obtain ⟨es, c, hh⟩ := h.now.lt hn
    exact map_ne hh h.hb
  have hbl := h.room (Or.inl rfl)
  have HLV := Lib.hid hl
  have HMAP := Lib.hid (h.now.lt hn)
  have hH := Lib.hid h
  have HN := Lib.hid hn
  clear h hn hc hok hok2 hm hl
  have eg : ∀ args w, (callFunc 111 args).run Tryz.prog w = .ok (.enter 111 args) w := enters_of Tryz.func111 (by kernel_rfl) rfl
  unfold chgV
  dsimp only
  go_enter Tryz.func110, Tryz.ntmps110
  go_wp2_with (first
    | (go_at_call 111; go_loud (refine kd.mono ?_); rintro e w1 ⟨rfl, hM, hg⟩; (have HW1 := Lib.hid (HW0.out w1 hM hg)); (have c3' : w1.cell? ⟨b, 3, none⟩ = some L.vc := (HW1.out.at_.cells).2.2.2.1); (have hrow := HW1.out.at_.row); (have HC1 := Lib.hid (HC.out.grown hg HMAP.out)); clear hM hg kd c1 c3 HW0 HC)
    | (at_builtin; refine wpList_chg rfl _ _ rfl L.vc S.chg.length _ rfl (chgV (Chg.mk n q) p) rfl rfl hrow hchg ?_))
  intro v2 w2 hr2 hg2 hl2
  have hp := HW1.out.at_.push hr2 hg2 hl2 HC1.out
  have hb2 := HW1.out.at_.head_after hg2
  have c3w : w2.cell? ⟨b, 3, none⟩ = some L.vc := cell_of hb2
  have f3w : w2.frozen? ⟨b, 3, none⟩ = false := frozen_of hb2
  have k3 := step_is b (doS S (Chg.mk n q)) _ _ hp.at_ HLV.out
  have HW2 := Lib.hid (HW1.out.trans hp)
  obtain ⟨a2, d2, e2⟩ := row_slice hr2
  obtain ⟨n2, hn2⟩ : ∃ n, S.chg.length + 1 = n := ⟨_, rfl⟩
  rw [hn2] at e2
  subst e2
  clear hr2 hg2 hl2 hp hb2 hrow c3' hn2
  go_wp2_with (go_at_call 91; (refine k3.mono ?_); rintro e w3 ⟨rfl, hW⟩; (have HW3 := Lib.hid hW); clear hW k3)
  go_ret
  exact ⟨_, rfl, HW2.out.trans HW3.out, rfl, rfl⟩

set_option maxHeartbeats 1000000 in
theorem change_del_is (b bm : Nat) (S : FS) (L : Lay) (n : Nm) (p : Nat × Nat) (w : World) (h : FsAt w b S L) (hn : L.bn = some bm) (hS : S.now.length ≤ 64) (hchg : S.chg.length ≤ 1000000) (hl : 0 ≤ S.left ∧ S.left ≤ 9223372036854775807) (hc : CapIs w (Chg.del n) p) (hok : ((Chg.del n)).okM S.now) :
    Calls Tryz.prog 110 #[.pointer (some ⟨b, 0, none⟩), chgV (Chg.del n) p] w fun e w' => ∃ L', e = .returned (.int .i64 (tell (stepS (doS S (Chg.del n))).1)) ∧ Went w w' b S (stepS (doS S (Chg.del n))).2 L L' ∧ L'.bn = L.bn ∧ L'.V = L.V := by
  obtain ⟨-, c1, -, c3, -⟩ := h.cells
  have hok2 := And.intro hok hS
  rw [hn] at c1
  have hm : MapIs w bm S.now := by
    rcases h.now with ⟨e, _⟩ | ⟨b2, e, hm⟩
    · rw [hn] at e; cases e
    · rw [hn] at e; injection e with e; subst e; exact hm
  have hc2 := hc
  obtain ⟨s, hs1, hs2, hs3⟩ := hc2
  have kd := del_is bm p.1 s S.now w hm (by unfold maxLen; omega) (cell_of hs3)
  rw [hs1] at kd
  have HW0 := Lib.hid (fun w' (hM : MapIs w' bm (((Chg.del n)).doM S.now)) (hg : w.grownBy w' (some bm)) => h.remap hn hM hg)
  have HC := Lib.hid hc
  have hbm : bm ≠ b := by
    obtain ⟨es, c, hh⟩ := h.now.lt hn
    exact map_ne hh h.hb
  have hbl := h.room (Or.inl rfl)
  have HLV := Lib.hid hl
  have HMAP := Lib.hid (h.now.lt hn)
  have hH := Lib.hid h
  have HN := Lib.hid hn
  clear h hn hc hok hok2 hm hl
  have eg : ∀ args w, (callFunc 112 args).run Tryz.prog w = .ok (.enter 112 args) w := enters_of Tryz.func112 (by kernel_rfl) rfl
  unfold chgV
  dsimp only
  go_enter Tryz.func110, Tryz.ntmps110
  go_wp2_with (first
    | (go_at_call 112; go_loud (refine kd.mono ?_); rintro e w1 ⟨rfl, hM, hg⟩; (have HW1 := Lib.hid (HW0.out w1 hM hg)); (have c3' : w1.cell? ⟨b, 3, none⟩ = some L.vc := (HW1.out.at_.cells).2.2.2.1); (have hrow := HW1.out.at_.row); (have HC1 := Lib.hid (HC.out.grown hg HMAP.out)); clear hM hg kd c1 c3 HW0 HC)
    | (at_builtin; refine wpList_chg rfl _ _ rfl L.vc S.chg.length _ rfl (chgV (Chg.del n) p) rfl rfl hrow hchg ?_))
  intro v2 w2 hr2 hg2 hl2
  have hp := HW1.out.at_.push hr2 hg2 hl2 HC1.out
  have hb2 := HW1.out.at_.head_after hg2
  have c3w : w2.cell? ⟨b, 3, none⟩ = some L.vc := cell_of hb2
  have f3w : w2.frozen? ⟨b, 3, none⟩ = false := frozen_of hb2
  have k3 := step_is b (doS S (Chg.del n)) _ _ hp.at_ HLV.out
  have HW2 := Lib.hid (HW1.out.trans hp)
  obtain ⟨a2, d2, e2⟩ := row_slice hr2
  obtain ⟨n2, hn2⟩ : ∃ n, S.chg.length + 1 = n := ⟨_, rfl⟩
  rw [hn2] at e2
  subst e2
  clear hr2 hg2 hl2 hp hb2 hrow c3' hn2
  go_wp2_with (go_at_call 91; (refine k3.mono ?_); rintro e w3 ⟨rfl, hW⟩; (have HW3 := Lib.hid hW); clear hW k3)
  go_ret
  exact ⟨_, rfl, HW2.out.trans HW3.out, rfl, rfl⟩

end Go.Proofs.YteijmjbiaffcmaaGreatDoor.Fi

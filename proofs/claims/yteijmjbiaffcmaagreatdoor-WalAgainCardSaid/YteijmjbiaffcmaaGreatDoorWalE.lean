/- Joined: WalStep, WalRem. -/
import Derived.Test.YteijmjbiaffcmaaGreatDoorWalD
import Derived.Test.YteijmjbiaffcmaaGreatDoorWalBegin
import Derived.Deep.RegionHeld
import Derived.Deep.CutRange
import Derived.Deep.CutBlock
import Derived.Laws.EntriesVeiled
/- One text appended to a slice of the log's own, in a region that draws its order; Records and Segments. -/
set_option maxRecDepth 20000
set_option linter.unusedSimpArgs false
set_option linter.unusedVariables false
namespace Go.Proofs.YteijmjbiaffcmaaGreatDoor
open Go.RowKit Go.Maps Go.Shelf Go.Proofs.YteijmjbiaffcmaaGreatDoor.Vi Go.Proofs.YteijmjbiaffcmaaGreatDoor.Crc Go.Proofs.YteijmjbiaffcmaaGreatDoor.Fr Go.Proofs.YteijmjbiaffcmaaGreatDoor.Fi

theorem run_rec (w : World) (ty : TypeId) (v : Value) (xs : List ByteArray) (y : ByteArray) (g : Nat) (hown : Rec w v xs) (hy : w.cell? ⟨g, 0, none⟩ = some (.string y)) (hl : xs.length ≤ 100000000) :
    ∃ v' w', (Builtin.append_ #[34, 34] ty #[v, .slice (some ⟨g, 0, none⟩) 1 1]).run Tryz.prog w = .ok v' w' ∧ Rec w' v' (xs ++ [y]) ∧ w.grownBy w' v.ownBlock ∧ Ones w w' ∧ (v'.ownBlock = v.ownBlock ∨ ∃ q, v'.ownBlock = some q ∧ w.heap.size ≤ q) := by
  obtain ⟨i0, hi, hz0, hz1, hz2⟩ := info_parts infoS
  have hcy : ∀ j u, ([Value.string y] : List Value)[j]? = some u → w.cell? ((⟨g, 0, none⟩ : Addr).add j) = some u := by
    intro j u hj
    match j, hj with
    | 0, hj => simp at hj; subst hj; simpa [Addr.add] using hy
  have hone : ∀ u ∈ ([Value.string y] : List Value), u.oneCell' = true := by intro u hu; simp at hu; subst hu; rfl
  have hown' := hown
  obtain ⟨hr1, hr2⟩ := hown'
  by_cases hfull : ∃ ao n cap, v = .slice ao n cap ∧ n + 1 ≤ cap
  · obtain ⟨v', w', hr, h2, h3, h4, h5⟩ := run_append_own_at (P := Tryz.prog) w 0 34 ty 9 i0 (.string ⟨#[]⟩) 1 16 Tryz.underlying34 hi hz0 hz1 hz2 rfl (by decide) v xs.length (xs.map Value.string) hr1 ⟨g, 0, none⟩ 1 1 [.string y] rfl hcy hone (by unfold maxLen; omega) (by omega) (by simp)
    refine ⟨v', w', hr, ⟨by rw [List.length_append, List.map_append]; exact h2, Or.inr (by simp)⟩, h3, ?_, ?_⟩
    · obtain ⟨ao, n, cap, rfl, hroom⟩ := hfull
      intro k c T e
      refine (h3.block k (some_lt e) ?_).trans e
      intro hk
      rcases hown.1.2 with ⟨e5, e6⟩ | ⟨q, cap', cur, e5, _, hh, hcap, _, hsz, _⟩
      · injection e5 with e7 e8 e9
        rw [e9] at hroom; omega
      · injection e5 with e7 e8 e9
        subst e7
        have hk' : k = q := by simp [Value.ownBlock] at hk; exact hk
        subst hk'
        rw [hh] at e
        injection e with e
        injection e with e _
        rw [e] at hsz
        have : cap' = 1 := by simpa using hsz.symm
        rcases hown.2 with h9 | h9
        · cases h9
        · have : 0 < xs.length := List.length_pos_iff.2 h9
          omega
    · rcases h5 with h5 | h5
      · exact Or.inl h5
      · exact Or.inr ⟨_, h5, Nat.le_refl _⟩
  · obtain ⟨ao, cap, hv⟩ := hown.slice
    subst hv
    have hf : cap < xs.length + 1 := by
      apply Nat.lt_of_not_le
      intro hc
      exact hfull ⟨_, _, _, rfl, hc⟩
    have fin : ∀ v' w', (Builtin.append_ #[34, 34] ty #[.slice ao xs.length cap, .slice (some ⟨g, 0, none⟩) 1 1]).run Tryz.prog w = .ok v' w' → w'.ownsRow w.heap.size 9 1 v' (xs.length + 1) (xs.map Value.string ++ [.string y]) → w.grownBy w' none → ∃ v' w', (Builtin.append_ #[34, 34] ty #[.slice ao xs.length cap, .slice (some ⟨g, 0, none⟩) 1 1]).run Tryz.prog w = .ok v' w' ∧ Rec w' v' (xs ++ [y]) ∧ w.grownBy w' (Value.slice ao xs.length cap).ownBlock ∧ Ones w w' ∧ (v'.ownBlock = (Value.slice ao xs.length cap).ownBlock ∨ ∃ q, v'.ownBlock = some q ∧ w.heap.size ≤ q) := by
      intro v' w' hr h2 hg
      refine ⟨v', w', hr, ⟨by rw [List.length_append, List.map_append]; exact row_base h2, Or.inr (by simp)⟩, ⟨hg.os, hg.tape, hg.output, hg.size, fun k hk _ => hg.block k hk (by simp)⟩, fun k c T e => (hg.block k (some_lt e) (by simp)).trans e, ?_⟩
      have := h2.lt
      cases e : v'.ownBlock with
      | none =>
        exfalso
        rcases h2.2 with ⟨e5, e6⟩ | ⟨q, cap', cur, e5, _⟩
        · omega
        · rw [e5] at e; simp [Value.ownBlock] at e
      | some q => exact Or.inr ⟨q, rfl, (h2.lt q e).1⟩
    cases ao with
    | some b0 =>
      obtain ⟨v', w', hr, h2, h3⟩ := run_append_arg_grows (P := Tryz.prog) w 34 ty 9 i0 (.string ⟨#[]⟩) 1 16 Tryz.underlying34 hi hz0 hz1 hz2 rfl (by decide) b0 xs.length cap (xs.map Value.string) (by simp) (fun j u hj => by
        rcases hr1.2 with ⟨e5, e6⟩ | ⟨q, cap', cur, e5, _⟩
        · injection e5 with e7 e8 e9
          cases e7
        · injection e5 with e7 e8 e9
          injection e7 with e7
          have hjl := (List.getElem?_eq_some_iff.1 hj).1
          subst e7
          rw [add_off, Nat.zero_add]
          subst e9
          rw [World.ownsRow.cellAt hr1 j (by simpa using hjl), hj]) ⟨g, 0, none⟩ 1 1 [.string y] rfl hcy hf (by unfold maxLen; omega) (by omega)
      exact fin v' w' hr h2 h3
    | none =>
      have hx0 : xs.length = 0 ∧ cap = 0 := by
        rcases hr1.2 with ⟨e5, e6⟩ | ⟨q, cap', cur, e5, _⟩
        · injection e5 with e7 e8 e9
          exact ⟨e6, e9⟩
        · injection e5 with e7
          cases e7
      obtain ⟨hx0, rfl⟩ := hx0
      obtain rfl : xs = [] := List.eq_nil_of_length_eq_zero hx0
      obtain ⟨v', w', hr, h2, h3, _⟩ := run_append_own (P := Tryz.prog) w w.heap.size 34 ty 9 i0 (.string ⟨#[]⟩) 1 16 Tryz.underlying34 hi hz0 hz1 hz2 rfl (by decide) (.slice none 0 0) 0 [] (World.ownsRow_nil w _ 9 1) ⟨g, 0, none⟩ 1 1 [.string y] rfl hcy hone (by unfold maxLen; omega) (by omega) (Nat.le_refl _)
      exact fin v' w' hr h2 h3
theorem step_rec {ops : Array Oper} {o : Oper} {a : Act} {w : World} {K : Act → World → Prop} {Q : Exit → Act → World → Prop} {E : Prop} (hgd : o.guard = none) (sl x : Operand)
    (ho : o.op = .call { callee := .builtin .append, args := #[sl, x], argTypes := #[34, 34] })
    (v : Value) (xs : List ByteArray) (y : ByteArray) (g : Nat) (hs : a.eval sl = v) (hx : a.eval x = .slice (some ⟨g, 0, none⟩) 1 1) (hown : Rec w v xs) (hy : w.cell? ⟨g, 0, none⟩ = some (.string y)) (hl : xs.length ≤ 100000000)
    (h : ∀ v' w', Rec w' v' (xs ++ [y]) → w.grownBy w' v.ownBlock → Ones w w' → (v'.ownBlock = v.ownBlock ∨ ∃ q, v'.ownBlock = some q ∧ w.heap.size ≤ q) → K (a.put o.dst v') w') :
    if Region.wanted o (yielded ops a.tmps) = true then Oper.wp Tryz.prog o a w K Q else E := by
  have hw : Region.wanted o (yielded ops a.tmps) = true := by simp [Region.wanted, hgd]
  rw [if_pos hw]
  obtain ⟨v', w', hr, h2, h3, h4, h5⟩ := run_rec w o.type v xs y g hown hy hl
  have hf := h v' w' h2 h3 h4 h5
  unfold Oper.wp execOp
  simp only [ho, resolve, invoke, builtin, Sem.run_bind, Sem.run_pure, Result.andThen_ok, List.map_toArray, List.map_cons, List.map_nil, hs, hx, hr]
  exact hf
section
variable {w : World} {B b a : Nat} {S : FS} {L : Lay} {W : WS} {v : Value}
theorem segments_is (h : Log B w b S L a W v) : Calls Tryz.prog 37 #[.pointer (some ⟨a, 0, none⟩)] w fun e w' => e = .returned (.int .i64 ((numsS S).length : Int)) ∧ Below w.heap.size w w' := by
  have kn := numbers_is w h.at_.dir h.glob
  have c0 := h.at_.cells.c0
  have hl : (intsN (numsS S)).length = (numsS S).length := by unfold intsN; rw [List.length_map]
  obtain ⟨n, hn⟩ : ∃ n, (numsS S).length = n := ⟨_, rfl⟩
  rw [hn] at hl ⊢
  have HL := Lib.hid hl
  clear h hn hl
  go_enter Tryz.func37, Tryz.ntmps37
  go_wp2_with (go_at_call 67; (with_reducible refine kn.mono ?_); rintro _ w1 ⟨vn, rfl, hI, hB1⟩; (obtain ⟨an, cn, rfl⟩ := hI.slice); rw [HL.out]; clear hI kn)
  go_ret
  exact ⟨rfl, hB1⟩
end
end Go.Proofs.YteijmjbiaffcmaaGreatDoor

/- Contracts of remove, with either closure, and of a log's Sync. -/
set_option maxRecDepth 20000
set_option linter.unusedSimpArgs false
set_option linter.unusedVariables false
namespace Go.Proofs.YteijmjbiaffcmaaGreatDoor
open Go.RowKit Go.Maps Go.Shelf Go.Proofs.YteijmjbiaffcmaaGreatDoor.Vi Go.Proofs.YteijmjbiaffcmaaGreatDoor.Crc Go.Proofs.YteijmjbiaffcmaaGreatDoor.Fr Go.Proofs.YteijmjbiaffcmaaGreatDoor.Fi

def removeL (P : Nat → Bool) : List Nat → FS → WS → Int × FS × WS
  | [], S, W => (0, S, W)
  | n :: t, S, W => if P n = true then (if (deleteS S (tx (seg n))).1 ≠ 0 then ((deleteS S (tx (seg n))).1, (deleteS S (tx (seg n))).2, toldW W (deleteS S (tx (seg n))).1) else removeL P t (deleteS S (tx (seg n))).2 W) else removeL P t S W
theorem deleteS_chg (S : FS) (n : ByteArray) : (deleteS S n).2.chg.length ≤ S.chg.length + 1 := by
  unfold deleteS
  split
  · unfold stepD
    rw [stepS_chg]
    unfold doS
    simp
  · exact Nat.le_succ _
section
variable {w : World} {B b a : Nat} {S : FS} {L : Lay} {W : WS} {v : Value}
theorem lessO_is (p8 : Nat) (bg x : Int) (w : World) (h : w.cell? ⟨p8, 0, none⟩ = some (.int .i64 bg)) : Calls Tryz.prog 70 #[.int .i64 x, .pointer (some ⟨p8, 0, none⟩)] w fun e w' => e = .returned (.bool (decide (x < bg))) ∧ w = w' := by
  by_cases hx : x < bg
  · rw [decide_eq_true hx]
    go_enter Tryz.func70, Tryz.ntmps70
    go_wp2
    go_ret
    exact ⟨rfl, rfl⟩
  · rw [decide_eq_false hx]
    go_enter Tryz.func70, Tryz.ntmps70
    go_wp2
    go_ret
    exact ⟨rfl, rfl⟩
theorem otherC_is (p2 : Nat) (sg x : Int) (w : World) (h : w.cell? ⟨p2, 0, none⟩ = some (.pointer (some ⟨a, 0, none⟩))) (h1 : w.cell? ⟨a, 1, none⟩ = some (.int .i64 sg)) : Calls Tryz.prog 55 #[.int .i64 x, .pointer (some ⟨p2, 0, none⟩)] w fun e w' => e = .returned (.bool (x != sg)) ∧ w = w' := by
  by_cases hx : x = sg
  · have hb : (x != sg) = false := by simpa using hx
    rw [hb]
    clear hx
    go_enter Tryz.func55, Tryz.ntmps55
    go_wp2
    go_ret
    exact ⟨rfl, rfl⟩
  · have hb : (x != sg) = true := by simpa using hx
    rw [hb]
    clear hx
    go_enter Tryz.func55, Tryz.ntmps55
    go_wp2
    go_ret
    exact ⟨rfl, rfl⟩
set_option maxHeartbeats 16000000 in
theorem removeO_is (h : Log B w b S L a W v) (hf : Fine W) (hchg : S.chg.length ≤ 990000) (p : Nat) (bg : Int) (hb : w.heap[p]? = some (.cells #[.int .i64 bg] 3)) : Calls Tryz.prog 54 #[.pointer (some ⟨a, 0, none⟩), .func (.func 70) #[] #[.pointer (some ⟨p, 0, none⟩)]] w (WDone b S L a W v (removeL (fun n => decide ((n : Int) < bg)) (numsS S) S W) w) := by
  have H := Lib.hid h
  have kn := numbers_is w h.at_.dir h.glob
  have HBX := Lib.hid hb
  have HPA := Lib.hid (show v.ownBlock ≠ some p from fun e => by
    obtain ⟨c, e1⟩ := h.at_.rcs.heap e
    rw [hb] at e1
    injection e1 with e1
    injection e1 with _ e1
    revert e1; decide)
  have c0 := h.at_.cells.c0
  have HFN := Lib.hid hf
  have HCHG := Lib.hid hchg
  have hn64 : (numsS S).length ≤ 64 := by
    have h1 := numsS_le S
    have h2 := h.at_.dir.whole.sane.len
    omega
  have HIN := Lib.hid (fun n (hn : n ∈ numsS S) => numsS_in hn)
  obtain ⟨l, hl⟩ : ∃ l, numsS S = l := ⟨_, rfl⟩
  obtain ⟨r, hrr⟩ : ∃ r, removeL (fun n => decide ((n : Int) < bg)) (numsS S) S W = r := ⟨_, rfl⟩
  rw [hrr]
  rw [hl] at kn hn64 HIN hrr
  have HRR := Lib.hid hrr
  have eg : ∀ args w, (callFunc 70 args).run Tryz.prog w = .ok (.enter 70 args) w := enters_of Tryz.func70 (by kernel_rfl) rfl
  clear h hl hf hchg hrr hb
  go_enter Tryz.func54, Tryz.ntmps54
  go_wp2_with (go_at_call 67; (with_reducible refine kn.mono ?_); rintro _ w1 ⟨vn, rfl, hI, hB1⟩; (obtain ⟨an, cn, rfl⟩ := hI.slice); (have HI1 := Lib.hid hI); (have HB1 := Lib.hid hB1); clear hI hB1 kn)
  obtain ⟨n, hn⟩ : ∃ n, l.length = n := ⟨_, rfl⟩
  have hil : (intsN l).length = n := by unfold intsN; rw [List.length_map]; exact hn
  simp only [hil]
  rw [hn] at hn64
  have HLN := Lib.hid hn
  have HI2 : Hid (IRow w1 w.heap.size (.slice an n cn) (intsN l)) := Lib.hid (by rw [← hil]; exact HI1.out)
  have HW1 := Lib.hid (WWent.below H.out.at_ HB1.out)
  have HBX1 := Lib.hid ((HB1.out.block p (some_lt HBX.out)).trans HBX.out)
  clear hn hil HI1 c0
  go_loopg [14] n (fun g ii wr => ∃ (i : Nat) (Si : FS) (Li : Lay), i + g = n ∧ ii = .int .i64 (i : Int) ∧ WWent w wr b S Si L Li a W W v v ∧ Hid (removeL (fun n => decide ((n : Int) < bg)) (l.drop i) Si W = r) ∧ Si.chg.length ≤ S.chg.length + i ∧ IRow wr w.heap.size (.slice an n cn) (intsN l) ∧ wr.heap[p]? = some (.cells #[.int .i64 bg] 3))
  case atStart => exact ⟨0, S, L, by omega, rfl, HW1.out, HRR, Nat.le_refl _, HI2.out, HBX1.out⟩
  case round =>
    obtain ⟨i, Si, Li, hi, rfl, hW, hr, hch, hI, hbx⟩ := hrel
    have HW := Lib.hid hW
    have HI := Lib.hid hI
    have HLG := Lib.hid (H.out.next hW)
    have HB := Lib.hid hbx
    have HCH := Lib.hid hch
    clear hW hI HI2 HW1 hch
    cases gk with
    | zero =>
      obtain rfl : i = n := by omega
      have hlt : ¬ (i : Int) < (i : Int) := by omega
      have hr2 := hr.out
      rw [List.drop_of_length_le (by rw [HLN.out]; exact Nat.le_refl _)] at hr2
      have HR2 := Lib.hid hr2
      clear hr2 hbx
      go_wp2
      go_ret
      exact ⟨Li, v, by rw [← HR2.out]; rfl, by rw [← HR2.out]; exact HW.out⟩
    | succ g =>
      have hlt : (i : Int) < (n : Int) := by omega
      have hil : i < l.length := by rw [HLN.out]; omega
      have hin := HIN.out _ (List.getElem_mem hil)
      obtain ⟨gn, rfl, -, -, hcn⟩ := HI.out.cell (by unfold intsN; rw [List.length_map]; omega)
      have hci := hcn i (by unfold intsN; rw [List.length_map]; exact hil)
      have hxi : (intsN l)[i]'(by unfold intsN; rw [List.length_map]; exact hil) = ((l[i] : Nat) : Int) := by unfold intsN; rw [List.getElem_map]
      rw [hxi] at hci
      have hdr := List.drop_eq_getElem_cons hil
      have hr2 := hr.out
      rw [hdr] at hr2
      obtain ⟨x, hx⟩ : ∃ x, l[i] = x := ⟨_, rfl⟩
      rw [hx] at hci hin hr2
      have hiw : IntKind.i64.wrap ((i : Int) + 1) = (i : Int) + 1 := by rw [IntKind.wrap_i64]; omega
      obtain ⟨ad, had⟩ : ∃ ad, tx (seg x) = ad := ⟨_, rfl⟩
      have ksg := fun w G => segment_is (x : Int) ad w (by omega) (by omega) G (Lib.hid (by rw [segI_nat hin]; exact had))
      have hns : ad.size ≤ maxLen := by rw [← had, tx_size, seg_len]; unfold maxLen; omega
      unfold removeL at hr2
      rw [had] at hr2
      have kcl := lessO_is p bg (x : Int) wr (cell_of hbx)
      have c0 := HLG.out.at_.cells.c0
      clear hcn hxi hx hdr hr had hbx
      by_cases hP : (fun n : Nat => decide ((n : Int) < bg)) x = true
      · rw [if_pos hP] at hr2
        have hP2 : (decide ((x : Int) < bg)) = true := hP
        rw [hP2] at kcl
        have HLd := Lib.hid (HLG.out.below (Below.refl _ wr).drew)
        have kd := delete_dir ad HLd.out.at_.dir (by have h1 := HCH.out; have h2 := HCHG.out; omega) hns
        obtain ⟨⟨dz, S8⟩, hdz⟩ : ∃ q, deleteS Si ad = q := ⟨_, rfl⟩
        rw [hdz] at hr2
        have HDZ := Lib.hid hdz
        have HR2 := Lib.hid hr2
        clear kd hdz hr2 hP hP2
        go_upto_region 5 with (go_at_call 70; (with_reducible refine kcl.mono ?_); rintro _ w2 ⟨rfl, rfl⟩)
        refine wp_region_held_drew (S := (fun W => W.cell? ⟨a, 0, none⟩ = some (.pointer (some ⟨b, 0, none⟩)))) (by kernel_rfl) c0 (fun hHeld => ?_)
        refine wpAnyH_take (i := 0) (oi := ?oa1o) (v := ?oa1v) ?oa1h (by kernel_rfl) (by kernel_rfl) (by kernel_rfl) ?oa1q ?oa1y hHeld ?oa1r
        case oa1h => (simp only [List.getElem?_toArray, List.getElem?_cons_zero]; rfl)
        case oa1q => exact fun _ _ _ h => h
        case oa1y => (refine Or.inl ⟨by first | kernel_rfl | rfl, ?_⟩; intro w hSw; (try dsimp only at hSw); have z1 := hSw; go_simp <;> (try with_reducible rfl))
        try simp only [Act.put, List.setIfInBounds_toArray, List.set_cons_zero, List.set_cons_succ]
        refine wpAnyH_take (i := 1) (oi := ?oa2o) (v := ?oa2v) ?oa2h (by kernel_rfl) (by kernel_rfl) (by kernel_rfl) ?oa2q ?oa2y hHeld ?oa2r
        case oa2h => (simp only [List.getElem?_toArray, List.getElem?_cons_succ, List.getElem?_cons_zero]; rfl)
        case oa2q => exact fun _ _ _ h => h
        case oa2y => (refine Or.inl ⟨by first | kernel_rfl | rfl, ?_⟩; intro w hSw; (try dsimp only at hSw); have z1 := hSw; go_simp <;> (try with_reducible rfl))
        try simp only [Act.put, List.setIfInBounds_toArray, List.set_cons_zero, List.set_cons_succ]
        refine wpAnyH_take (i := 2) (oi := ?oa3o) (v := ?oa3v) ?oa3h (by kernel_rfl) (by kernel_rfl) (by kernel_rfl) ?oa3q ?oa3y hHeld ?oa3r
        case oa3h => (simp only [List.getElem?_toArray, List.getElem?_cons_succ, List.getElem?_cons_zero]; rfl)
        case oa3q => exact fun _ _ _ h => h
        case oa3y => (refine Or.inl ⟨by first | kernel_rfl | rfl, ?_⟩; intro w hSw; (try dsimp only at hSw); have z1 := hSw; go_simp <;> (try with_reducible rfl))
        try simp only [Act.put, List.setIfInBounds_toArray, List.set_cons_zero, List.set_cons_succ]
        refine wpAnyH_take (i := 3) (oi := ?oa4o) (v := ?oa4v) ?oa4h (by kernel_rfl) (by kernel_rfl) (by kernel_rfl) ?oa4q ?oa4y hHeld ?oa4r
        case oa4h => (simp only [List.getElem?_toArray, List.getElem?_cons_succ, List.getElem?_cons_zero]; rfl)
        case oa4q => exact fun _ _ _ h => h
        case oa4y => (refine Or.inl ⟨by first | kernel_rfl | rfl, ?_⟩; intro w hSw; (try dsimp only at hSw); have z1 := hSw; go_simp <;> (try with_reducible rfl))
        try simp only [Act.put, List.setIfInBounds_toArray, List.set_cons_zero, List.set_cons_succ]
        refine wpAnyH_take (i := 4) (oi := ?oa5o) (v := ?oa5v) ?oa5h (by kernel_rfl) (by kernel_rfl) (by kernel_rfl) ?oa5q ?oa5y hHeld ?oa5r
        case oa5h => (simp only [List.getElem?_toArray, List.getElem?_cons_succ, List.getElem?_cons_zero]; rfl)
        case oa5q => exact fun _ _ _ h => h
        case oa5y => (refine Or.inl ⟨by first | kernel_rfl | rfl, ?_⟩; intro w hSw; (try dsimp only at hSw); have z1 := hSw; go_simp <;> (try with_reducible rfl))
        try simp only [Act.put, List.setIfInBounds_toArray, List.set_cons_zero, List.set_cons_succ]
        refine wpAnyH_take (i := 5) (oi := ?oa6o) (v := ?oa6v) ?oa6h (by kernel_rfl) (by kernel_rfl) (by kernel_rfl) ?oa6q ?oa6y hHeld ?oa6r
        case oa6h => (simp only [List.getElem?_toArray, List.getElem?_cons_succ, List.getElem?_cons_zero]; rfl)
        case oa6q => exact fun _ _ _ h => h
        case oa6y => (refine Or.inl ⟨by first | kernel_rfl | rfl, ?_⟩; intro w hSw; (try dsimp only at hSw); have z1 := hSw; go_simp <;> (try with_reducible rfl))
        try simp only [Act.put, List.setIfInBounds_toArray, List.set_cons_zero, List.set_cons_succ]
        refine wpAnyH_ready (rs := [6]) (by kernel_rfl) (by simp) ?_
        refine (AllReadyH.cons rfl (fun K hK => ?_) AllReadyH.nil)
        go_simp
        (go_at_call 13; (with_reducible refine (ksg _ HLd.out.glob).mono ?_); rintro _ w3 ⟨rfl, hB3⟩; (have HL3 := Lib.hid (HLd.out.below hB3)); (have HB3 := Lib.hid (bel_next (Below.refl _ wr).drew hB3)); clear ksg hB3)
        refine hK.out _ _ (HL3.out.at_.cells.c0) (fun hHeld => ?_)
        clear hK K
        try simp only [Act.put, List.setIfInBounds_toArray, List.set_cons_zero, List.set_cons_succ]
        refine wpAnyH_ready (rs := [7]) (by kernel_rfl) (by simp) ?_
        refine (AllReadyH.cons rfl (fun K hK => ?_) AllReadyH.nil)
        go_simp
        (go_at_call 88; (with_reducible refine (delete_dir ad HL3.out.at_.dir (by have h1 := HCH.out; have h2 := HCHG.out; omega) hns).mono ?_); rw [HDZ.out]; rintro _ w4 ⟨L4, rfl, hW4, hD4⟩; (have HT4 := Lib.hid ((WWent.below HLG.out.at_ HB3.out).trans (WWent.dir HL3.out.at_ hW4 hD4))); (have HU4 := Lib.hid (HW.out.trans HT4.out)); (have HL4 := Lib.hid (H.out.next HU4.out)); clear hW4 hD4)
        refine hK.out _ _ (HL4.out.at_.cells.c0) (fun hHeld => ?_)
        clear hK K
        try simp only [Act.put, List.setIfInBounds_toArray, List.set_cons_zero, List.set_cons_succ]
        refine wpAnyH_ready (rs := [8]) (by kernel_rfl) (by simp) ?_
        refine (AllReadyH.cons rfl (fun K hK => ?_) AllReadyH.nil)
        go_simp
        (go_at_call 56; (with_reducible refine (told_is HL4.out.at_ dz).mono ?_); rintro _ w5 ⟨rfl, hW5⟩; (have HT5 := Lib.hid (HT4.out.trans hW5)); (have HU5 := Lib.hid (HU4.out.trans hW5)); clear hW5)
        refine hK.out _ _ (HT5.out.at_.cells.c0) (fun hHeld => ?_)
        clear hK K
        try simp only [Act.put, List.setIfInBounds_toArray, List.set_cons_zero, List.set_cons_succ]
        refine wpAnyH_take (i := 9) (oi := ?oa7o) (v := ?oa7v) ?oa7h (by kernel_rfl) (by kernel_rfl) (by kernel_rfl) ?oa7q ?oa7y hHeld ?oa7r
        case oa7h => (simp only [List.getElem?_toArray, List.getElem?_cons_succ, List.getElem?_cons_zero]; rfl)
        case oa7q => exact fun _ _ _ h => h
        case oa7y => (refine Or.inl ⟨by first | kernel_rfl | rfl, ?_⟩; intro w hSw; (try dsimp only at hSw); have z1 := hSw; go_simp <;> (try with_reducible rfl))
        try simp only [Act.put, List.setIfInBounds_toArray, List.set_cons_zero, List.set_cons_succ]
        refine wpAnyH_done (by kernel_rfl) ?_ _
        clear hHeld
        have hr2 := HR2.out
        by_cases hz0 : dz = 0
        · subst hz0
          rw [if_neg (by decide)] at hr2
          have HR3 := Lib.hid hr2
          clear hr2
          have hw0 : toldW W 0 = W := rfl
          rw [hw0] at HT5 HU5
          have hc8 := deleteS_chg Si ad
          rw [HDZ.out] at hc8
          have HC8 := Lib.hid hc8
          have HB5 := Lib.hid (box_went HLG.out.at_ HT5.out HB.out (by decide) (by decide) (by decide) (by decide) (by decide) HPA.out)
          have HI5 := Lib.hid (irow_frm HI.out HLG.out.at_ HT5.out.frm)
          clear hw0 hc8
          go_wp2
          go_roundg g
          case measure => omega
          case rel => exact ⟨i + 1, S8, L4, by omega, by go_num, HU5.out, HR3, (by have h1 := HCH.out; have h2 := HC8.out; omega), HI5.out, HB5.out⟩
        · have hne : (dz != 0) = true := by simpa using hz0
          rw [if_pos hz0] at hr2
          have HR3 := Lib.hid hr2
          clear hr2 hz0
          go_wp2
          go_ret
          exact ⟨L4, v, by rw [← HR3.out]; rfl, by rw [← HR3.out]; exact HU5.out⟩
      · have hP2 : (decide ((x : Int) < bg)) = false := by simpa using hP
        rw [if_neg hP] at hr2
        rw [hP2] at kcl
        have HR2 := Lib.hid hr2
        clear hr2 hP hP2
        go_wp2_with (go_at_call 70; (with_reducible refine kcl.mono ?_); rintro _ w2 ⟨rfl, rfl⟩)
        go_roundg g
        case measure => omega
        case rel => exact ⟨i + 1, Si, Li, by omega, by go_num, HW.out, HR2, (by have := HCH.out; omega), HI.out, HB.out⟩
set_option maxHeartbeats 16000000 in
theorem removeC_is (h : Log B w b S L a W v) (hf : Fine W) (hchg : S.chg.length ≤ 990000) (p : Nat) (hb : w.heap[p]? = some (.cells #[.pointer (some ⟨a, 0, none⟩)] 33)) : Calls Tryz.prog 54 #[.pointer (some ⟨a, 0, none⟩), .func (.func 55) #[] #[.pointer (some ⟨p, 0, none⟩)]] w (WDone b S L a W v (removeL (fun n => ((n : Int) != W.sg)) (numsS S) S W) w) := by
  have H := Lib.hid h
  have kn := numbers_is w h.at_.dir h.glob
  have HBX := Lib.hid hb
  have HPA := Lib.hid (show v.ownBlock ≠ some p from fun e => by
    obtain ⟨c, e1⟩ := h.at_.rcs.heap e
    rw [hb] at e1
    injection e1 with e1
    injection e1 with _ e1
    revert e1; decide)
  have c0 := h.at_.cells.c0
  have HFN := Lib.hid hf
  have HCHG := Lib.hid hchg
  have hn64 : (numsS S).length ≤ 64 := by
    have h1 := numsS_le S
    have h2 := h.at_.dir.whole.sane.len
    omega
  have HIN := Lib.hid (fun n (hn : n ∈ numsS S) => numsS_in hn)
  obtain ⟨l, hl⟩ : ∃ l, numsS S = l := ⟨_, rfl⟩
  obtain ⟨r, hrr⟩ : ∃ r, removeL (fun n => ((n : Int) != W.sg)) (numsS S) S W = r := ⟨_, rfl⟩
  rw [hrr]
  rw [hl] at kn hn64 HIN hrr
  have HRR := Lib.hid hrr
  have eg : ∀ args w, (callFunc 55 args).run Tryz.prog w = .ok (.enter 55 args) w := enters_of Tryz.func55 (by kernel_rfl) rfl
  clear h hl hf hchg hrr hb
  go_enter Tryz.func54, Tryz.ntmps54
  go_wp2_with (go_at_call 67; (with_reducible refine kn.mono ?_); rintro _ w1 ⟨vn, rfl, hI, hB1⟩; (obtain ⟨an, cn, rfl⟩ := hI.slice); (have HI1 := Lib.hid hI); (have HB1 := Lib.hid hB1); clear hI hB1 kn)
  obtain ⟨n, hn⟩ : ∃ n, l.length = n := ⟨_, rfl⟩
  have hil : (intsN l).length = n := by unfold intsN; rw [List.length_map]; exact hn
  simp only [hil]
  rw [hn] at hn64
  have HLN := Lib.hid hn
  have HI2 : Hid (IRow w1 w.heap.size (.slice an n cn) (intsN l)) := Lib.hid (by rw [← hil]; exact HI1.out)
  have HW1 := Lib.hid (WWent.below H.out.at_ HB1.out)
  have HBX1 := Lib.hid ((HB1.out.block p (some_lt HBX.out)).trans HBX.out)
  clear hn hil HI1 c0
  go_loopg [14] n (fun g ii wr => ∃ (i : Nat) (Si : FS) (Li : Lay), i + g = n ∧ ii = .int .i64 (i : Int) ∧ WWent w wr b S Si L Li a W W v v ∧ Hid (removeL (fun n => ((n : Int) != W.sg)) (l.drop i) Si W = r) ∧ Si.chg.length ≤ S.chg.length + i ∧ IRow wr w.heap.size (.slice an n cn) (intsN l) ∧ wr.heap[p]? = some (.cells #[.pointer (some ⟨a, 0, none⟩)] 33))
  case atStart => exact ⟨0, S, L, by omega, rfl, HW1.out, HRR, Nat.le_refl _, HI2.out, HBX1.out⟩
  case round =>
    obtain ⟨i, Si, Li, hi, rfl, hW, hr, hch, hI, hbx⟩ := hrel
    have HW := Lib.hid hW
    have HI := Lib.hid hI
    have HLG := Lib.hid (H.out.next hW)
    have HB := Lib.hid hbx
    have HCH := Lib.hid hch
    clear hW hI HI2 HW1 hch
    cases gk with
    | zero =>
      obtain rfl : i = n := by omega
      have hlt : ¬ (i : Int) < (i : Int) := by omega
      have hr2 := hr.out
      rw [List.drop_of_length_le (by rw [HLN.out]; exact Nat.le_refl _)] at hr2
      have HR2 := Lib.hid hr2
      clear hr2 hbx
      go_wp2
      go_ret
      exact ⟨Li, v, by rw [← HR2.out]; rfl, by rw [← HR2.out]; exact HW.out⟩
    | succ g =>
      have hlt : (i : Int) < (n : Int) := by omega
      have hil : i < l.length := by rw [HLN.out]; omega
      have hin := HIN.out _ (List.getElem_mem hil)
      obtain ⟨gn, rfl, -, -, hcn⟩ := HI.out.cell (by unfold intsN; rw [List.length_map]; omega)
      have hci := hcn i (by unfold intsN; rw [List.length_map]; exact hil)
      have hxi : (intsN l)[i]'(by unfold intsN; rw [List.length_map]; exact hil) = ((l[i] : Nat) : Int) := by unfold intsN; rw [List.getElem_map]
      rw [hxi] at hci
      have hdr := List.drop_eq_getElem_cons hil
      have hr2 := hr.out
      rw [hdr] at hr2
      obtain ⟨x, hx⟩ : ∃ x, l[i] = x := ⟨_, rfl⟩
      rw [hx] at hci hin hr2
      have hiw : IntKind.i64.wrap ((i : Int) + 1) = (i : Int) + 1 := by rw [IntKind.wrap_i64]; omega
      obtain ⟨ad, had⟩ : ∃ ad, tx (seg x) = ad := ⟨_, rfl⟩
      have ksg := fun w G => segment_is (x : Int) ad w (by omega) (by omega) G (Lib.hid (by rw [segI_nat hin]; exact had))
      have hns : ad.size ≤ maxLen := by rw [← had, tx_size, seg_len]; unfold maxLen; omega
      unfold removeL at hr2
      rw [had] at hr2
      have kcl := otherC_is (a := a) p W.sg (x : Int) wr (cell_of hbx) HLG.out.at_.cells.c1
      have c0 := HLG.out.at_.cells.c0
      clear hcn hxi hx hdr hr had hbx
      by_cases hP : (fun n : Nat => ((n : Int) != W.sg)) x = true
      · rw [if_pos hP] at hr2
        have hP2 : (((x : Int) != W.sg)) = true := hP
        rw [hP2] at kcl
        have HLd := Lib.hid (HLG.out.below (Below.refl _ wr).drew)
        have kd := delete_dir ad HLd.out.at_.dir (by have h1 := HCH.out; have h2 := HCHG.out; omega) hns
        obtain ⟨⟨dz, S8⟩, hdz⟩ : ∃ q, deleteS Si ad = q := ⟨_, rfl⟩
        rw [hdz] at hr2
        have HDZ := Lib.hid hdz
        have HR2 := Lib.hid hr2
        clear kd hdz hr2 hP hP2
        go_upto_region 5 with (go_at_call 55; (with_reducible refine kcl.mono ?_); rintro _ w2 ⟨rfl, rfl⟩)
        refine wp_region_held_drew (S := (fun W => W.cell? ⟨a, 0, none⟩ = some (.pointer (some ⟨b, 0, none⟩)))) (by kernel_rfl) c0 (fun hHeld => ?_)
        refine wpAnyH_take (i := 0) (oi := ?ob1o) (v := ?ob1v) ?ob1h (by kernel_rfl) (by kernel_rfl) (by kernel_rfl) ?ob1q ?ob1y hHeld ?ob1r
        case ob1h => (simp only [List.getElem?_toArray, List.getElem?_cons_zero]; rfl)
        case ob1q => exact fun _ _ _ h => h
        case ob1y => (refine Or.inl ⟨by first | kernel_rfl | rfl, ?_⟩; intro w hSw; (try dsimp only at hSw); have z1 := hSw; go_simp <;> (try with_reducible rfl))
        try simp only [Act.put, List.setIfInBounds_toArray, List.set_cons_zero, List.set_cons_succ]
        refine wpAnyH_take (i := 1) (oi := ?ob2o) (v := ?ob2v) ?ob2h (by kernel_rfl) (by kernel_rfl) (by kernel_rfl) ?ob2q ?ob2y hHeld ?ob2r
        case ob2h => (simp only [List.getElem?_toArray, List.getElem?_cons_succ, List.getElem?_cons_zero]; rfl)
        case ob2q => exact fun _ _ _ h => h
        case ob2y => (refine Or.inl ⟨by first | kernel_rfl | rfl, ?_⟩; intro w hSw; (try dsimp only at hSw); have z1 := hSw; go_simp <;> (try with_reducible rfl))
        try simp only [Act.put, List.setIfInBounds_toArray, List.set_cons_zero, List.set_cons_succ]
        refine wpAnyH_take (i := 2) (oi := ?ob3o) (v := ?ob3v) ?ob3h (by kernel_rfl) (by kernel_rfl) (by kernel_rfl) ?ob3q ?ob3y hHeld ?ob3r
        case ob3h => (simp only [List.getElem?_toArray, List.getElem?_cons_succ, List.getElem?_cons_zero]; rfl)
        case ob3q => exact fun _ _ _ h => h
        case ob3y => (refine Or.inl ⟨by first | kernel_rfl | rfl, ?_⟩; intro w hSw; (try dsimp only at hSw); have z1 := hSw; go_simp <;> (try with_reducible rfl))
        try simp only [Act.put, List.setIfInBounds_toArray, List.set_cons_zero, List.set_cons_succ]
        refine wpAnyH_take (i := 3) (oi := ?ob4o) (v := ?ob4v) ?ob4h (by kernel_rfl) (by kernel_rfl) (by kernel_rfl) ?ob4q ?ob4y hHeld ?ob4r
        case ob4h => (simp only [List.getElem?_toArray, List.getElem?_cons_succ, List.getElem?_cons_zero]; rfl)
        case ob4q => exact fun _ _ _ h => h
        case ob4y => (refine Or.inl ⟨by first | kernel_rfl | rfl, ?_⟩; intro w hSw; (try dsimp only at hSw); have z1 := hSw; go_simp <;> (try with_reducible rfl))
        try simp only [Act.put, List.setIfInBounds_toArray, List.set_cons_zero, List.set_cons_succ]
        refine wpAnyH_take (i := 4) (oi := ?ob5o) (v := ?ob5v) ?ob5h (by kernel_rfl) (by kernel_rfl) (by kernel_rfl) ?ob5q ?ob5y hHeld ?ob5r
        case ob5h => (simp only [List.getElem?_toArray, List.getElem?_cons_succ, List.getElem?_cons_zero]; rfl)
        case ob5q => exact fun _ _ _ h => h
        case ob5y => (refine Or.inl ⟨by first | kernel_rfl | rfl, ?_⟩; intro w hSw; (try dsimp only at hSw); have z1 := hSw; go_simp <;> (try with_reducible rfl))
        try simp only [Act.put, List.setIfInBounds_toArray, List.set_cons_zero, List.set_cons_succ]
        refine wpAnyH_take (i := 5) (oi := ?ob6o) (v := ?ob6v) ?ob6h (by kernel_rfl) (by kernel_rfl) (by kernel_rfl) ?ob6q ?ob6y hHeld ?ob6r
        case ob6h => (simp only [List.getElem?_toArray, List.getElem?_cons_succ, List.getElem?_cons_zero]; rfl)
        case ob6q => exact fun _ _ _ h => h
        case ob6y => (refine Or.inl ⟨by first | kernel_rfl | rfl, ?_⟩; intro w hSw; (try dsimp only at hSw); have z1 := hSw; go_simp <;> (try with_reducible rfl))
        try simp only [Act.put, List.setIfInBounds_toArray, List.set_cons_zero, List.set_cons_succ]
        refine wpAnyH_ready (rs := [6]) (by kernel_rfl) (by simp) ?_
        refine (AllReadyH.cons rfl (fun K hK => ?_) AllReadyH.nil)
        go_simp
        (go_at_call 13; (with_reducible refine (ksg _ HLd.out.glob).mono ?_); rintro _ w3 ⟨rfl, hB3⟩; (have HL3 := Lib.hid (HLd.out.below hB3)); (have HB3 := Lib.hid (bel_next (Below.refl _ wr).drew hB3)); clear ksg hB3)
        refine hK.out _ _ (HL3.out.at_.cells.c0) (fun hHeld => ?_)
        clear hK K
        try simp only [Act.put, List.setIfInBounds_toArray, List.set_cons_zero, List.set_cons_succ]
        refine wpAnyH_ready (rs := [7]) (by kernel_rfl) (by simp) ?_
        refine (AllReadyH.cons rfl (fun K hK => ?_) AllReadyH.nil)
        go_simp
        (go_at_call 88; (with_reducible refine (delete_dir ad HL3.out.at_.dir (by have h1 := HCH.out; have h2 := HCHG.out; omega) hns).mono ?_); rw [HDZ.out]; rintro _ w4 ⟨L4, rfl, hW4, hD4⟩; (have HT4 := Lib.hid ((WWent.below HLG.out.at_ HB3.out).trans (WWent.dir HL3.out.at_ hW4 hD4))); (have HU4 := Lib.hid (HW.out.trans HT4.out)); (have HL4 := Lib.hid (H.out.next HU4.out)); clear hW4 hD4)
        refine hK.out _ _ (HL4.out.at_.cells.c0) (fun hHeld => ?_)
        clear hK K
        try simp only [Act.put, List.setIfInBounds_toArray, List.set_cons_zero, List.set_cons_succ]
        refine wpAnyH_ready (rs := [8]) (by kernel_rfl) (by simp) ?_
        refine (AllReadyH.cons rfl (fun K hK => ?_) AllReadyH.nil)
        go_simp
        (go_at_call 56; (with_reducible refine (told_is HL4.out.at_ dz).mono ?_); rintro _ w5 ⟨rfl, hW5⟩; (have HT5 := Lib.hid (HT4.out.trans hW5)); (have HU5 := Lib.hid (HU4.out.trans hW5)); clear hW5)
        refine hK.out _ _ (HT5.out.at_.cells.c0) (fun hHeld => ?_)
        clear hK K
        try simp only [Act.put, List.setIfInBounds_toArray, List.set_cons_zero, List.set_cons_succ]
        refine wpAnyH_take (i := 9) (oi := ?ob7o) (v := ?ob7v) ?ob7h (by kernel_rfl) (by kernel_rfl) (by kernel_rfl) ?ob7q ?ob7y hHeld ?ob7r
        case ob7h => (simp only [List.getElem?_toArray, List.getElem?_cons_succ, List.getElem?_cons_zero]; rfl)
        case ob7q => exact fun _ _ _ h => h
        case ob7y => (refine Or.inl ⟨by first | kernel_rfl | rfl, ?_⟩; intro w hSw; (try dsimp only at hSw); have z1 := hSw; go_simp <;> (try with_reducible rfl))
        try simp only [Act.put, List.setIfInBounds_toArray, List.set_cons_zero, List.set_cons_succ]
        refine wpAnyH_done (by kernel_rfl) ?_ _
        clear hHeld
        have hr2 := HR2.out
        by_cases hz0 : dz = 0
        · subst hz0
          rw [if_neg (by decide)] at hr2
          have HR3 := Lib.hid hr2
          clear hr2
          have hw0 : toldW W 0 = W := rfl
          rw [hw0] at HT5 HU5
          have hc8 := deleteS_chg Si ad
          rw [HDZ.out] at hc8
          have HC8 := Lib.hid hc8
          have HB5 := Lib.hid (box_went HLG.out.at_ HT5.out HB.out (by decide) (by decide) (by decide) (by decide) (by decide) HPA.out)
          have HI5 := Lib.hid (irow_frm HI.out HLG.out.at_ HT5.out.frm)
          clear hw0 hc8
          go_wp2
          go_roundg g
          case measure => omega
          case rel => exact ⟨i + 1, S8, L4, by omega, by go_num, HU5.out, HR3, (by have h1 := HCH.out; have h2 := HC8.out; omega), HI5.out, HB5.out⟩
        · have hne : (dz != 0) = true := by simpa using hz0
          rw [if_pos hz0] at hr2
          have HR3 := Lib.hid hr2
          clear hr2 hz0
          go_wp2
          go_ret
          exact ⟨L4, v, by rw [← HR3.out]; rfl, by rw [← HR3.out]; exact HU5.out⟩
      · have hP2 : (((x : Int) != W.sg)) = false := by simpa using hP
        rw [if_neg hP] at hr2
        rw [hP2] at kcl
        have HR2 := Lib.hid hr2
        clear hr2 hP hP2
        go_wp2_with (go_at_call 55; (with_reducible refine kcl.mono ?_); rintro _ w2 ⟨rfl, rfl⟩)
        go_roundg g
        case measure => omega
        case rel => exact ⟨i + 1, Si, Li, by omega, by go_num, HW.out, HR2, (by have := HCH.out; omega), HI.out, HB.out⟩
end
end Go.Proofs.YteijmjbiaffcmaaGreatDoor

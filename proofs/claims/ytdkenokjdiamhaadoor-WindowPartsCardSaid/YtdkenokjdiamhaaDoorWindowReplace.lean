/- slices.Replace at spans. -/
import Derived.Test.YtdkenokjdiamhaaDoorWindowInsert
import Derived.BigQuiet
set_option maxRecDepth 20000
namespace Go.Proofs.YtdkenokjdiamhaaDoor
open Go.RowKit Go.Lib

/-- append(s[:i], v...) into a row that has room. -/
theorem wpList_append_rows {ops : Array Oper} {rest : List Oper} {o : Oper} {a : Act} {w : World} {Q : Exit → Act → World → Prop} (hgd : o.guard = none) (d s : Operand)
    (ho : o.op = .call { callee := .builtin .append, args := #[d, s], argTypes := #[SPT, SPT] })
    (g sLen sCap m sc : Nat) (sp : Option Addr) (hd : a.eval d = .slice (some ⟨g, 0, none⟩) sLen sCap) (hs : a.eval s = .slice sp m sc)
    (cur : List Value) (hg : w.heap[g]? = some (.cells cur.toArray 26 (0, 0))) (cs : List Value) (hn : cs.length = m * 2)
    (hpos : 0 < cs.length → ∃ ad, sp = some ad ∧ ∀ j v, cs[j]? = some v → w.cell? (ad.add j) = some v)
    (hroom : sLen + m ≤ sCap) (hfit : sLen * 2 + cs.length ≤ cur.length) (h1 : ∀ v ∈ cs, v.oneCell' = true)
    (h : ∀ w', Hid (w'.heap[g]? = some (.cells (splice cur (sLen * 2) cs).toArray 26 (0, 0))) → w.grownBy w' (some g) → wpList Tryd.prog ops Q rest (a.put o.dst (.slice (some ⟨g, 0, none⟩) (sLen + m) sCap)) w') :
    wpList Tryd.prog ops Q (o :: rest) a w := by
  obtain ⟨i0, hi0, hz0, hz1, hz2⟩ := info_parts infoSp
  refine wpList_plain hgd fun K hK => ?_
  by_cases h0 : cs.length = 0
  · obtain rfl : cs = [] := List.eq_nil_of_length_eq_zero h0
    have hm : m = 0 := by simp only [List.length_nil] at hn; omega
    subst hm
    have hl : ∀ x : Addr, (loadCells x 0).run Tryd.prog w = .ok #[] w := fun x => run_loadCells_list (P := Tryd.prog) w x [] (by simp)
    have hroom' : sLen ≤ sCap := hroom
    have hrun : (Builtin.append_ #[SPT, SPT] o.type #[.slice (some ⟨g, 0, none⟩) sLen sCap, .slice sp 0 sc]).run Tryd.prog w = .ok (.slice (some ⟨g, 0, none⟩) sLen sCap) w := by
      cases sp <;> simp [Builtin.append_, run_underlying undSpT, sizeOf, typeInfo, hi0, Builtin.lenOf, hroom', Builtin.firstCells, hl, storeCells]
    have hf := h w (show _ = _ by simpa [splice] using hg) (World.grownBy.refl _ _)
    rw [Nat.add_zero] at hf
    unfold Oper.wp
    simp only [execOp, ho, resolve, invoke, builtin, Sem.run_bind, Sem.run_pure, Result.andThen_ok, List.map_toArray, List.map_cons, List.map_nil, hd, hs, hrun]
    exact hK _ _ hf
  · obtain ⟨ad, rfl, hsrc⟩ := hpos (by omega)
    have hrun := run_append_room (P := Tryd.prog) w SPT o.type 26 i0 undSpT hi0 g sLen sCap cur.toArray hg ad m sc cs (by rw [hz1]; exact hn) hsrc h1 hroom (by rw [hz1]; simpa using hfit)
    rw [List.append_assoc, hz1] at hrun
    have hf := h _ (show _ = _ by simpa [splice] using setRow_heap w g _ _ _ _ hg) (grown_setRow _ _ _)
    unfold Oper.wp
    simp only [execOp, ho, resolve, invoke, builtin, Sem.run_bind, Sem.run_pure, Result.andThen_ok, List.map_toArray, List.map_cons, List.map_nil, hd, hs, hrun]
    exact hK _ _ hf
theorem splice_take {α : Type} (L : List α) (off : Nat) (cs : List α) (h : off ≤ L.length) : (splice L off cs).take (off + cs.length) = L.take off ++ cs := by
  have hl : (L.take off).length = off := by rw [List.length_take]; omega
  rw [splice, ← List.append_assoc, List.take_left' (by rw [List.length_append, hl])]
theorem splice_past {α : Type} (L : List α) (off : Nat) (cs : List α) (k : Nat) (h : off ≤ L.length) (hk : off + cs.length ≤ k) : (splice L off cs)[k]? = L[k]? := by
  have hl : (L.take off).length = off := by rw [List.length_take]; omega
  rw [splice, List.getElem?_append_right (by omega), List.getElem?_append_right (by omega), hl, List.getElem?_drop]
  congr 1
  omega
theorem SrcOk.some_cells {w : World} {r : Option Nat} {a : Option Addr} {l : List Sp} (h : SrcOk w r a l) (hp : 0 < (l.flatMap cells2).length) : ∃ ad, a = some ad ∧ ∀ j v, (l.flatMap cells2)[j]? = some v → w.cell? (ad.add j) = some v :=
  h.cells (by intro e; rw [e] at hp; simp at hp)

set_option maxHeartbeats 4000000 in
theorem replace_tail (B : Nat) (g : Nat) (a2 : Option Addr) (i j n m q c c2 : Nat) (L l : List Sp) (cur : List Value) (w : World) (hn : Hid (L.length = n)) (hm : Hid (l.length = m)) (hR : RowIs w g c L cur) (hB : B ≤ g)
    (hs : SrcOk w (some g) a2 l) (hij : i < j) (hjn : j ≤ n) (hq : Hid (n - j = q)) (hsz : n + m ≤ 1000000)
    (T : List Sp) (hT : Hid (L.take i ++ l ++ L.drop j = T)) (hjn2 : j = n) (hroom : i + m ≤ c) :
    Calls Tryd.prog 61 #[.slice (some ⟨g, 0, none⟩) n c, .int .i64 (i : Int), .int .i64 (j : Int), .slice a2 m c2] w (RepDone B (.slice (some ⟨g, 0, none⟩) n c) T w) := by
  have hq := hq.out
  have hct : c ≤ 9223372036854775807 := by have := hR.top; unfold maxLen at this; omega
  have hnc : n ≤ c := by have := hR.fits; rw [hn.out] at this; exact this
  have hgw : g < w.heap.size := (Array.getElem?_eq_some_iff.1 hR.heap).1
  obtain ⟨p1, -, hp1, hp1'⟩ := cut_mid (some ⟨g, 0, none⟩) n c i j (i : Int) (j : Int) rfl rfl (by omega) (by omega)
  obtain ⟨hp2, hp2'⟩ := cut_to g n c i (i : Int) rfl (by omega)
  have hie : ((i : Int) == (j : Int)) = false := by rw [beq_eq_false_iff_ne]; omega
  obtain ⟨lA, lM, lC, oM, oC, lT, fT⟩ := Pieces.of q hn.out hm.out (by omega) hjn hq hT.out
  have cC := hR.cells j (by rw [hn.out]; omega)
  have hcl := hR.len
  have hheap := hR.heap
  have hA : cur.take (i * 2) = (L.take i).flatMap cells2 := hR.head i (by rw [hn.out]; omega)
  obtain ⟨A, hA'⟩ : ∃ A, (L.take i).flatMap cells2 = A := ⟨_, rfl⟩
  obtain ⟨M, hM⟩ : ∃ M, l.flatMap cells2 = M := ⟨_, rfl⟩
  obtain ⟨C, hC⟩ : ∃ C, (L.drop j).flatMap cells2 = C := ⟨_, rfl⟩
  have dM : ∀ w : World, SrcOk w (some g) a2 l → 0 < M.length → ∃ ad, a2 = some ad ∧ ∀ j v, M[j]? = some v → w.cell? (ad.add j) = some v := fun w h hp => by rw [← hM] at hp ⊢; exact h.some_cells hp
  rw [hA'] at lA fT hA
  rw [hM] at lM oM fT
  rw [hC] at lC oC fT cC
  have HS := Lib.hid hs
  subst hjn2
  have hq0 : q = 0 := by omega
  have hC0 : C = [] := List.eq_nil_of_length_eq_zero (by omega)
  rw [hC0, List.append_nil] at fT
  have hje : ((j : Int) == (j : Int)) = true := by simp
  have f1 : i * 2 + M.length ≤ cur.length := by omega
  have l1 := length_splice cur (i * 2) M f1
  have HLS := Lib.hid (l1.trans hcl)
  have k1 := splice_take cur (i * 2) M (by omega)
  rw [lM, hA] at k1
  have e1 : i * 2 + m * 2 = (i + m) * 2 := by omega
  rw [e1] at k1
  have HEND := Lib.hid (fun (w' : World) (cur' : List Value) (hh : w'.heap[g]? = some (.cells cur'.toArray 26 (0, 0))) (hl : cur'.length = (splice cur (i * 2) M).length) (ht : cur'.take ((i + m) * 2) = (splice cur (i * 2) M).take ((i + m) * 2)) =>
    row_end (w' := w') (B := B) (g := g) (tot := i + m) (T := T) (cur' := cur') (c := c) hB hh (by omega) hroom hR.top (by omega) (ht.trans k1) fT)
  have dM1 := fun hp => dM w HS.out hp
  by_cases hcl2 : i + m < j
  · have hlt : (i : Int) + (m : Int) < (j : Int) := by omega
    obtain ⟨p3, hp3a, hp3, hp3'⟩ := cut_from (some ⟨g, 0, none⟩) j c (i + m) ((i : Int) + (m : Int)) (by omega) (by omega)
    have hp3e := hp3a (by omega)
    rw [add_row] at hp3e
    subst hp3e
    clear hA' hM hC hn hm hs hR hT hA fT k1 e1
    go_enter Tryd.func61, Tryd.ntmps61
    go_wp2_with (refine wpList_append_rows rfl _ _ rfl g i c m c2 a2 rfl rfl cur hheap M lM dM1 hroom f1 oM ?_)
    intro w4 HG4 hb4
    go_wp2_with (refine wpList_clear_rows rfl _ rfl (some ⟨g, (i + m) * 2, none⟩) (j - (i + m)) (c - (i + m)) rfl g ((i + m) * 2) _ 26 HG4.out (fun _ => rfl) (by omega) ?_)
    intro w5 cur5 HG5 hl5 ht5 hb5
    have HL5 := Lib.hid hl5.out
    clear hl5
    go_wp2
    go_ret
    exact ⟨_, rfl, HEND.out w5 cur5 HG5.out (by first | exact HL5.out | exact HL5.out.trans HLS.out.symm) (ht5.out _ (Nat.le_refl _)), World.grownBy.trans hb4 hb5, Or.inl rfl⟩
  · have hlt : ¬ (i : Int) + (m : Int) < (j : Int) := by omega
    clear hA' hM hC hn hm hs hR hT hA fT k1 e1
    go_enter Tryd.func61, Tryd.ntmps61
    go_wp2_with (refine wpList_append_rows rfl _ _ rfl g i c m c2 a2 rfl rfl cur hheap M lM dM1 hroom f1 oM ?_)
    intro w4 HG4 hb4
    go_wp2
    go_ret
    exact ⟨_, rfl, HEND.out w4 _ HG4.out rfl rfl, hb4, Or.inl rfl⟩

set_option maxHeartbeats 4000000 in
theorem replace_tail_grow (B : Nat) (g : Nat) (a2 : Option Addr) (i j n m q c c2 : Nat) (L l : List Sp) (cur : List Value) (w : World) (hn : Hid (L.length = n)) (hm : Hid (l.length = m)) (hR : RowIs w g c L cur) (hB : B ≤ g)
    (hs : SrcOk w (some g) a2 l) (hij : i < j) (hjn : j ≤ n) (hq : Hid (n - j = q)) (hsz : n + m ≤ 1000000)
    (T : List Sp) (hT : Hid (L.take i ++ l ++ L.drop j = T)) (hjn2 : j = n) (hroom : c < i + m) :
    Calls Tryd.prog 61 #[.slice (some ⟨g, 0, none⟩) n c, .int .i64 (i : Int), .int .i64 (j : Int), .slice a2 m c2] w (RepDone B (.slice (some ⟨g, 0, none⟩) n c) T w) := by
  have hq := hq.out
  have hct : c ≤ 9223372036854775807 := by have := hR.top; unfold maxLen at this; omega
  have hnc : n ≤ c := by have := hR.fits; rw [hn.out] at this; exact this
  have hgw : g < w.heap.size := (Array.getElem?_eq_some_iff.1 hR.heap).1
  obtain ⟨p1, -, hp1, hp1'⟩ := cut_mid (some ⟨g, 0, none⟩) n c i j (i : Int) (j : Int) rfl rfl (by omega) (by omega)
  obtain ⟨hp2, hp2'⟩ := cut_to g n c i (i : Int) rfl (by omega)
  have hie : ((i : Int) == (j : Int)) = false := by rw [beq_eq_false_iff_ne]; omega
  obtain ⟨lA, lM, lC, oM, oC, lT, fT⟩ := Pieces.of q hn.out hm.out (by omega) hjn hq hT.out
  have cC := hR.cells j (by rw [hn.out]; omega)
  have hcl := hR.len
  have hheap := hR.heap
  have hA : cur.take (i * 2) = (L.take i).flatMap cells2 := hR.head i (by rw [hn.out]; omega)
  have hRow : w.ownsRow B 26 2 (.slice (some ⟨g, 0, none⟩) i c) i ((L.take i).flatMap cells2) := by
    have hR' : RowIs w g c (L.take i) cur := ⟨hR.heap, hR.len, by rw [List.length_take, hn.out]; omega, hR.top, by rw [List.length_take, hn.out, Nat.min_eq_left (by omega)]; exact hA⟩
    have := hR'.row hB
    rw [List.length_take, hn.out, Nat.min_eq_left (by omega)] at this
    unfold SpRow at this
    rw [List.length_take, hn.out, Nat.min_eq_left (by omega)] at this
    exact this
  obtain ⟨i0, hi, hz0, hz1, hz2⟩ := info_parts infoSp
  obtain ⟨A, hA'⟩ : ∃ A, (L.take i).flatMap cells2 = A := ⟨_, rfl⟩
  obtain ⟨M, hM⟩ : ∃ M, l.flatMap cells2 = M := ⟨_, rfl⟩
  obtain ⟨C, hC⟩ : ∃ C, (L.drop j).flatMap cells2 = C := ⟨_, rfl⟩
  have dM : ∀ w : World, SrcOk w (some g) a2 l → 0 < M.length → ∃ ad, a2 = some ad ∧ ∀ j v, M[j]? = some v → w.cell? (ad.add j) = some v := fun w h hp => by rw [← hM] at hp ⊢; exact h.some_cells hp
  rw [hA'] at lA fT hA
  rw [hM] at lM oM fT
  rw [hC] at lC oC fT cC
  have HS := Lib.hid hs
  rw [hA'] at hRow
  subst hjn2
  have hC0 : C = [] := List.eq_nil_of_length_eq_zero (by omega)
  rw [hC0, List.append_nil] at fT
  have hje : ((j : Int) == (j : Int)) = true := by simp
  have hlt : ¬ (i : Int) + (m : Int) < (j : Int) := by omega
  obtain ⟨ad, rfl, hsrc⟩ := dM w HS.out (by omega)
  have HFT := Lib.hid fT
  have HLT := Lib.hid (show T.length = i + m by omega)
  clear hA' hM hC hn hm hs hR hT hA fT lT
  go_enter Tryd.func61, Tryd.ntmps61
  go_wp2_with (at_builtin; refine wpList_append_own_at _ rfl _ _ SPT rfl B 26 i0 (.agg #[.int .i64 0, .int .i64 0]) 2 16 Tryd.underlying29 hi hz0 hz1 hz2 rfl (by decide) _ _ _ rfl hRow ad m c2 M rfl lM hsrc oM ?c3 ?c4 ?c5 ?_)
  case c3 => unfold maxLen; omega
  case c4 => omega
  case c5 => omega
  intro v' w' hown hgrow _ hfoot
  obtain ⟨a', c', rfl⟩ : ∃ a' c', v' = .slice a' (i + m) c' := by
    rcases hown.2 with ⟨h, h0⟩ | ⟨g', cap', cur', h, _⟩
    · omega
    · exact ⟨_, _, h⟩
  have HOWN := Lib.hid hown
  have HF := Lib.hid hfoot
  clear hown hfoot hsrc hRow
  go_wp2
  go_ret
  refine ⟨_, rfl, ?_, hgrow, ?_⟩
  · unfold SpRow
    rw [HLT.out, HFT.out]
    exact HOWN.out
  · rcases HF.out with h | h
    · exact Or.inl h
    · exact Or.inr ⟨_, h, Nat.le_refl _⟩

set_option maxHeartbeats 4000000 in
theorem replace_grow (B : Nat) (g : Nat) (a2 : Option Addr) (i j n m q c c2 : Nat) (L l : List Sp) (cur : List Value) (w : World) (hn : Hid (L.length = n)) (hm : Hid (l.length = m)) (hR : RowIs w g c L cur) (hB : B ≤ g)
    (hs : SrcOk w (some g) a2 l) (hij : i < j) (hjn : j ≤ n) (hq : Hid (n - j = q)) (hsz : n + m ≤ 1000000)
    (T : List Sp) (hT : Hid (L.take i ++ l ++ L.drop j = T)) (hjn2 : j < n) (hroom : c < i + m + q) :
    Calls Tryd.prog 61 #[.slice (some ⟨g, 0, none⟩) n c, .int .i64 (i : Int), .int .i64 (j : Int), .slice a2 m c2] w (RepDone B (.slice (some ⟨g, 0, none⟩) n c) T w) := by
  have hq := hq.out
  have hct : c ≤ 9223372036854775807 := by have := hR.top; unfold maxLen at this; omega
  have hnc : n ≤ c := by have := hR.fits; rw [hn.out] at this; exact this
  have hgw : g < w.heap.size := (Array.getElem?_eq_some_iff.1 hR.heap).1
  obtain ⟨p1, -, hp1, hp1'⟩ := cut_mid (some ⟨g, 0, none⟩) n c i j (i : Int) (j : Int) rfl rfl (by omega) (by omega)
  obtain ⟨hp2, hp2'⟩ := cut_to g n c i (i : Int) rfl (by omega)
  have hie : ((i : Int) == (j : Int)) = false := by rw [beq_eq_false_iff_ne]; omega
  obtain ⟨lA, lM, lC, oM, oC, lT, fT⟩ := Pieces.of q hn.out hm.out (by omega) hjn hq hT.out
  have cC := hR.cells j (by rw [hn.out]; omega)
  have hcl := hR.len
  have hheap := hR.heap
  have hA : cur.take (i * 2) = (L.take i).flatMap cells2 := hR.head i (by rw [hn.out]; omega)
  have hje : ((j : Int) == (n : Int)) = false := by rw [beq_eq_false_iff_ne]; omega
  obtain ⟨p5, hp5a, hp5, hp5'⟩ := cut_from (some ⟨g, 0, none⟩) n c j (j : Int) rfl (by omega)
  have hp5e := hp5a (by omega)
  rw [add_row] at hp5e
  subst hp5e
  rw [hq] at hp5 hp5'
  have hw1 : IntKind.i64.wrap ((i : Int) + (m : Int)) = (i : Int) + (m : Int) := by rw [IntKind.wrap_i64]; omega
  have hw2 : IntKind.i64.wrap ((i : Int) + (m : Int) + (q : Int)) = (i : Int) + (m : Int) + (q : Int) := by rw [IntKind.wrap_i64]; omega
  have hw3 : IntKind.i64.wrap ((i : Int) + (m : Int) + (q : Int) - (i : Int)) = (m : Int) + (q : Int) := by rw [IntKind.wrap_i64]; omega
  have hw4 : IntKind.i64.wrap ((m : Int) + (q : Int)) = (m : Int) + (q : Int) := by rw [IntKind.wrap_i64]; omega
  have hgt : (c : Int) < (i : Int) + (m : Int) + (q : Int) := by omega
  have HHR := Lib.hid hR
  have hiL : i ≤ L.length := by rw [hn.out]; omega
  obtain ⟨A, hA'⟩ : ∃ A, (L.take i).flatMap cells2 = A := ⟨_, rfl⟩
  obtain ⟨M, hM⟩ : ∃ M, l.flatMap cells2 = M := ⟨_, rfl⟩
  obtain ⟨C, hC⟩ : ∃ C, (L.drop j).flatMap cells2 = C := ⟨_, rfl⟩
  have dM : ∀ w : World, SrcOk w (some g) a2 l → 0 < M.length → ∃ ad, a2 = some ad ∧ ∀ j v, M[j]? = some v → w.cell? (ad.add j) = some v := fun w h hp => by rw [← hM] at hp ⊢; exact h.some_cells hp
  rw [hA'] at lA fT hA
  rw [hM] at lM oM fT
  rw [hC] at lC oC fT cC
  have HS := Lib.hid hs
  clear hA' hM hC hn hm hs hR hT
  go_enter Tryd.func61, Tryd.ntmps61
  go_wp2_with fail
  go_quiet (fail)
  obtain ⟨w1, hw1e⟩ : ∃ w1, w.drewN nq = w1 := ⟨_, rfl⟩
  have hR1 : RowIs w1 g c L cur := by rw [← hw1e]; exact ⟨HHR.out.heap, HHR.out.len, HHR.out.fits, HHR.out.top, HHR.out.has⟩
  have hS1 : SrcOk w1 (some g) a2 l := HS.out.grown (by rw [← hw1e]; exact ⟨rfl, rfl, rfl, Nat.le_refl _, fun _ _ _ => rfl⟩)
  have hc1 : ∀ x, w1.cell? x = w.cell? x := fun x => by rw [← hw1e]; rfl
  have hg0 : w.grownBy w1 none := by rw [← hw1e]; exact ⟨rfl, rfl, rfl, Nat.le_refl _, fun _ _ _ => rfl⟩
  have hN : w1.heap.size = w.heap.size := by rw [← hw1e]; rfl
  obtain ⟨ROW, G, W1, hap, hrow, hrl, hG, hGm, htk, hgr⟩ := append_zeros hR1 i (m + q) (i + m + q) hiL (by omega) (by omega) hroom (by omega)
  have hGt : G ≤ 9223372036854775807 := by unfold maxLen at hGm; omega
  have hgr2 : w.grownBy W1 none := World.grownBy.trans hg0 hgr
  obtain ⟨N, hNe⟩ : ∃ N, w.heap.size = N := ⟨_, rfl⟩
  rw [hN, hNe] at hap hrow
  obtain ⟨p3, hp3a, hp3, hp3'⟩ := cut_from (some ⟨N, 0, none⟩) (i + m + q) G (i + m) ((i : Int) + (m : Int)) (by omega) (by omega)
  have hp3e := hp3a (by omega)
  rw [add_row] at hp3e
  subst hp3e
  obtain ⟨p4, hp4a, hp4, hp4'⟩ := cut_from (some ⟨N, 0, none⟩) (i + m + q) G i (i : Int) rfl (by omega)
  have hp4e := hp4a (by omega)
  rw [add_row] at hp4e
  subst hp4e
  have hkk : (m : Int) + (q : Int) = ((m + q : Nat) : Int) := by omega
  have hap2 : ∀ ty, (Builtin.append_ #[SPT, 3] ty #[.slice (some ⟨g, 0, none⟩) i c, .int .i64 ((m : Int) + (q : Int))]).run Tryd.prog w1 = .ok (.slice (some ⟨N, 0, none⟩) (i + m + q) G) W1 := fun ty => by rw [hkk]; exact hap ty
  have hA2 : ROW.take (i * 2) = A := by rw [htk, ← hA, HHR.out.head i hiL]
  have key := sp_ab ROW A M C (by rw [lA]; exact hA2)
  rw [lA, lM, lC] at key
  have e1 : i * 2 + m * 2 = (i + m) * 2 := by omega
  have e2 : (i + m) * 2 + q * 2 = (i + m + q) * 2 := by omega
  rw [e1, e2] at key
  have f1 : i * 2 + M.length ≤ ROW.length := by omega
  have l1 := length_splice ROW (i * 2) M f1
  have f2 : (i + m) * 2 + C.length ≤ (splice ROW (i * 2) M).length := by omega
  have l2 := length_splice (splice ROW (i * 2) M) ((i + m) * 2) C f2
  have HEND := Lib.hid (fun (w' : World) hh => row_end (w' := w') (B := B) (g := N) (tot := i + m + q) (T := T) (cur' := splice (splice ROW (i * 2) M) ((i + m) * 2) C) (c := G) (by omega) hh (by omega) hG hGm lT key fT)
  have d1 : M.length = Nat.min m (i + m + q - i) * 2 := by rw [lM]; simp only [Nat.min_def]; split <;> omega
  have d2 := dM W1 (hS1.grown (grown_any hgr))
  have d3 : C.length = Nat.min q (i + m + q - (i + m)) * 2 := by rw [lC]; simp only [Nat.min_def]; split <;> omega
  have d4 : ∀ w' : World, W1.grownBy w' (some N) → ∀ (k : Nat) v, C[k]? = some v → w'.cell? ((⟨g, j * 2, none⟩ : Addr).add k) = some v := fun w' h k v hv => by
    rw [Addr.add_lit]
    refine (World.cell?_of_block (w := w) ?_).trans (cC k v hv)
    exact (h.block g (Nat.lt_of_lt_of_le hgw hgr2.size) (by simp; omega)).trans (hgr2.block g hgw (by simp))
  have HGR := Lib.hid (fun (w4 w5 : World) (h4 : W1.grownBy w4 (some N)) (h5 : w4.grownBy w5 (some N)) => show w.grownBy w5 (some g) from grown_next hgr2 (fun b hb hr => by
    rw [h5.block b (Nat.lt_of_lt_of_le hb (Nat.le_trans hgr2.size h4.size)) (by simp; omega), h4.block b (Nat.lt_of_lt_of_le hb hgr2.size) (by simp; omega)]) (h5.os.trans h4.os) (h5.tape.trans h4.tape) (h5.output.trans h4.output) (Nat.le_trans h4.size h5.size))
  have HNE := Lib.hid hNe
  clear hkk hap htk hgr hgr2 key e1 e2 fT hA hA2 hR1 hS1 hc1 hg0 hN hNe hrl l2
  go_wp2_with (first
    | (at_builtin; refine Lib.wpList_append_run _ rfl _ _ _ _ rfl _ _ rfl rfl _ _ (hap2 _) ?_)
    | (refine wpList_copy_rows rfl _ _ rfl (some ⟨N, i * 2, none⟩) a2 (i + m + q - i) (G - i) m c2 rfl rfl N (i * 2) ROW 26 hrow M d1 (fun hp => ⟨rfl, d2 hp⟩) f1 oM ?_))
  intro w4 HG4 hb4
  have d4 := d4 w4 hb4
  go_wp2_with fail
  go_region_law (refine step_copy_rows rfl _ _ rfl (some ⟨N, (i + m) * 2, none⟩) (some ⟨g, j * 2, none⟩) (i + m + q - (i + m)) (G - (i + m)) q (c - j) (by simp [Act.eval, Act.put]) (by simp [Act.eval, Act.put]) N ((i + m) * 2) _ 26 HG4.out C d3 (fun _ => ⟨rfl, _, rfl, d4⟩) f2 oC ?_; intro w5 HG5 hb5)
  go_wp2
  go_ret
  exact ⟨_, rfl, HEND.out w5 HG5.out, HGR.out w4 w5 hb4 ⟨hb5.os, hb5.tape, hb5.output, hb5.size, hb5.block⟩, Or.inr ⟨N, rfl, by have := HNE.out; omega⟩⟩

set_option maxHeartbeats 4000000 in
theorem replace_less (B : Nat) (g : Nat) (a2 : Option Addr) (i j n m q c c2 : Nat) (L l : List Sp) (cur : List Value) (w : World) (hn : Hid (L.length = n)) (hm : Hid (l.length = m)) (hR : RowIs w g c L cur) (hB : B ≤ g)
    (hs : SrcOk w (some g) a2 l) (hij : i < j) (hjn : j ≤ n) (hq : Hid (n - j = q)) (hsz : n + m ≤ 1000000)
    (T : List Sp) (hT : Hid (L.take i ++ l ++ L.drop j = T)) (hjn2 : j < n) (hroom : i + m + q ≤ c) (hless : i + m ≤ j) :
    Calls Tryd.prog 61 #[.slice (some ⟨g, 0, none⟩) n c, .int .i64 (i : Int), .int .i64 (j : Int), .slice a2 m c2] w (RepDone B (.slice (some ⟨g, 0, none⟩) n c) T w) := by
  have hq := hq.out
  have hct : c ≤ 9223372036854775807 := by have := hR.top; unfold maxLen at this; omega
  have hnc : n ≤ c := by have := hR.fits; rw [hn.out] at this; exact this
  have hgw : g < w.heap.size := (Array.getElem?_eq_some_iff.1 hR.heap).1
  obtain ⟨p1, -, hp1, hp1'⟩ := cut_mid (some ⟨g, 0, none⟩) n c i j (i : Int) (j : Int) rfl rfl (by omega) (by omega)
  obtain ⟨hp2, hp2'⟩ := cut_to g n c i (i : Int) rfl (by omega)
  have hie : ((i : Int) == (j : Int)) = false := by rw [beq_eq_false_iff_ne]; omega
  obtain ⟨lA, lM, lC, oM, oC, lT, fT⟩ := Pieces.of q hn.out hm.out (by omega) hjn hq hT.out
  have cC := hR.cells j (by rw [hn.out]; omega)
  have hcl := hR.len
  have hheap := hR.heap
  have hA : cur.take (i * 2) = (L.take i).flatMap cells2 := hR.head i (by rw [hn.out]; omega)
  have hje : ((j : Int) == (n : Int)) = false := by rw [beq_eq_false_iff_ne]; omega
  obtain ⟨p5, hp5a, hp5, hp5'⟩ := cut_from (some ⟨g, 0, none⟩) n c j (j : Int) rfl (by omega)
  have hp5e := hp5a (by omega)
  rw [add_row] at hp5e
  subst hp5e
  rw [hq] at hp5 hp5'
  have hw1 : IntKind.i64.wrap ((i : Int) + (m : Int)) = (i : Int) + (m : Int) := by rw [IntKind.wrap_i64]; omega
  have hw2 : IntKind.i64.wrap ((i : Int) + (m : Int) + (q : Int)) = (i : Int) + (m : Int) + (q : Int) := by rw [IntKind.wrap_i64]; omega
  have hgt : ¬ (c : Int) < (i : Int) + (m : Int) + (q : Int) := by omega
  obtain ⟨hp6, hp6'⟩ := cut_to g n c (i + m + q) ((i : Int) + (m : Int) + (q : Int)) (by omega) hroom
  obtain ⟨p4, hp4a, hp4, hp4'⟩ := cut_from (some ⟨g, 0, none⟩) (i + m + q) c i (i : Int) rfl (by omega)
  have hp4e := hp4a (by omega)
  rw [add_row] at hp4e
  subst hp4e
  obtain ⟨p3, hp3a, hp3, hp3'⟩ := cut_from (some ⟨g, 0, none⟩) (i + m + q) c (i + m) ((i : Int) + (m : Int)) (by omega) (by omega)
  have hp3e := hp3a (by omega)
  rw [add_row] at hp3e
  subst hp3e
  obtain ⟨A, hA'⟩ : ∃ A, (L.take i).flatMap cells2 = A := ⟨_, rfl⟩
  obtain ⟨M, hM⟩ : ∃ M, l.flatMap cells2 = M := ⟨_, rfl⟩
  obtain ⟨C, hC⟩ : ∃ C, (L.drop j).flatMap cells2 = C := ⟨_, rfl⟩
  have dM : ∀ w : World, SrcOk w (some g) a2 l → 0 < M.length → ∃ ad, a2 = some ad ∧ ∀ j v, M[j]? = some v → w.cell? (ad.add j) = some v := fun w h hp => by rw [← hM] at hp ⊢; exact h.some_cells hp
  rw [hA'] at lA fT hA
  rw [hM] at lM oM fT
  rw [hC] at lC oC fT cC
  have HS := Lib.hid hs
  have e1 : i * 2 + m * 2 = (i + m) * 2 := by omega
  have e2 : (i + m) * 2 + q * 2 = (i + m + q) * 2 := by omega
  have d3 : C.length = Nat.min q (i + m + q - (i + m)) * 2 := by rw [lC]; simp only [Nat.min_def]; split <;> omega
  have d1 : M.length = Nat.min m (i + m + q - i) * 2 := by rw [lM]; simp only [Nat.min_def]; split <;> omega
  have hle : ¬ (j : Int) < (i : Int) + (m : Int) := by omega
  have hle2 : (i : Int) + (m : Int) ≤ (j : Int) := by omega
  obtain ⟨p7, hp7a, hp7, hp7'⟩ := cut_from (some ⟨g, 0, none⟩) n c (i + m + q) ((i : Int) + (m : Int) + (q : Int)) (by omega) (by omega)
  rw [add_row] at hp7a
  have key := sp_ab cur A M C (by rw [lA]; exact hA)
  rw [lA, lM, lC, e1, e2] at key
  have f1 : i * 2 + M.length ≤ cur.length := by omega
  have l1 := length_splice cur (i * 2) M f1
  have f2 : (i + m) * 2 + C.length ≤ (splice cur (i * 2) M).length := by omega
  have l2 := length_splice (splice cur (i * 2) M) ((i + m) * 2) C f2
  have l3 := l2.trans (l1.trans hcl)
  have HL3 := Lib.hid l3
  have HEND := Lib.hid (fun (w' : World) (cur' : List Value) (hh : w'.heap[g]? = some (.cells cur'.toArray 26 (0, 0))) (hl : cur'.length = c * 2) (ht : cur'.take ((i + m + q) * 2) = (splice (splice cur (i * 2) M) ((i + m) * 2) C).take ((i + m + q) * 2)) =>
    row_end (w' := w') (B := B) (g := g) (tot := i + m + q) (T := T) (cur' := cur') (c := c) hB hh hl hroom hR.top lT (ht.trans key) fT)
  have hpast : ∀ k : Nat, k < C.length → (splice cur (i * 2) M)[j * 2 + k]? = cur[j * 2 + k]? := fun k _ => splice_past _ _ _ _ (by omega) (by omega)
  have d4 : ∀ w' : World, w'.heap[g]? = some (.cells (splice cur (i * 2) M).toArray 26 (0, 0)) → ∀ (k : Nat) v, C[k]? = some v → w'.cell? ((⟨g, j * 2, none⟩ : Addr).add k) = some v := fun w' h k v hv => by
    have hk := (List.getElem?_eq_some_iff.1 hv).1
    have e := cC k v hv
    rw [Addr.add_lit, cell_of_row w' g _ _ _ (0, 0) h]
    rw [cell_of_row w g _ cur.toArray _ (0, 0) hheap] at e
    simp only [List.getElem?_toArray] at e ⊢
    rw [hpast k hk]; exact e
  have f3 : (i + m + q) * 2 + (n - (i + m + q)) * 2 ≤ (splice (splice cur (i * 2) M) ((i + m) * 2) C).length := by rw [l3]; omega
  clear hA' hM hC hn hm hs hR hT hA fT key e1 e2 l2 l3 hpast hcl cC
  go_enter Tryd.func61, Tryd.ntmps61
  go_wp2_with fail
  go_quiet (fail)
  obtain ⟨w1, hw1e⟩ : ∃ w1, w.drewN nq = w1 := ⟨_, rfl⟩
  have hS1 : SrcOk w1 (some g) a2 l := HS.out.grown (by rw [← hw1e]; exact ⟨rfl, rfl, rfl, Nat.le_refl _, fun _ _ _ => rfl⟩)
  have hg0 : w.grownBy w1 (some g) := by rw [← hw1e]; exact ⟨rfl, rfl, rfl, Nat.le_refl _, fun _ _ _ => rfl⟩
  have hheap1 : w1.heap[g]? = some (.cells cur.toArray 26 (0, 0)) := by rw [← hw1e]; exact hheap
  rw [hw1e]
  have d2 := dM w1 hS1
  clear hS1
  go_wp2_with (refine wpList_copy_rows rfl _ _ rfl (some ⟨g, i * 2, none⟩) a2 (i + m + q - i) (c - i) m c2 rfl rfl g (i * 2) cur 26 hheap1 M d1 (fun hp => ⟨rfl, d2 hp⟩) f1 oM ?_)
  intro w4 HG4 hb4
  have d4 := d4 w4 HG4.out
  go_wp2_with fail
  go_region_law (refine step_copy_rows rfl _ _ rfl (some ⟨g, (i + m) * 2, none⟩) (some ⟨g, j * 2, none⟩) (i + m + q - (i + m)) (c - (i + m)) q (c - j) (by simp [Act.eval, Act.put]) (by simp [Act.eval, Act.put]) g ((i + m) * 2) _ 26 HG4.out C d3 (fun _ => ⟨rfl, _, rfl, d4⟩) f2 oC ?_; intro w5 HG5 hb5)
  go_wp2_with (refine wpList_clear_rows rfl _ rfl p7 (n - (i + m + q)) (c - (i + m + q)) rfl g ((i + m + q) * 2) _ 26 HG5.out (fun h => hp7a (by omega)) f3 ?_)
  intro w6 cur6 HG6 hl6 ht6 hb6
  have HL6 := Lib.hid (hl6.out.trans HL3.out)
  clear hl6
  go_wp2
  go_ret
  exact ⟨_, rfl, HEND.out w6 cur6 HG6.out HL6.out (ht6.out _ (Nat.le_refl _)), World.grownBy.trans hg0 (World.grownBy.trans hb4 (World.grownBy.trans ⟨hb5.os, hb5.tape, hb5.output, hb5.size, hb5.block⟩ hb6)), Or.inl rfl⟩

set_option maxHeartbeats 4000000 in
theorem replace_more (B : Nat) (g : Nat) (a2 : Option Addr) (i j n m q c c2 : Nat) (L l : List Sp) (cur : List Value) (w : World) (hn : Hid (L.length = n)) (hm : Hid (l.length = m)) (hR : RowIs w g c L cur) (hB : B ≤ g)
    (hs : SrcOk w (some g) a2 l) (hij : i < j) (hjn : j ≤ n) (hq : Hid (n - j = q)) (hsz : n + m ≤ 1000000)
    (T : List Sp) (hT : Hid (L.take i ++ l ++ L.drop j = T)) (hjn2 : j < n) (hroom : i + m + q ≤ c) (hmore : j < i + m) :
    Calls Tryd.prog 61 #[.slice (some ⟨g, 0, none⟩) n c, .int .i64 (i : Int), .int .i64 (j : Int), .slice a2 m c2] w (RepDone B (.slice (some ⟨g, 0, none⟩) n c) T w) := by
  have hq := hq.out
  have hct : c ≤ 9223372036854775807 := by have := hR.top; unfold maxLen at this; omega
  have hnc : n ≤ c := by have := hR.fits; rw [hn.out] at this; exact this
  have hgw : g < w.heap.size := (Array.getElem?_eq_some_iff.1 hR.heap).1
  obtain ⟨p1, -, hp1, hp1'⟩ := cut_mid (some ⟨g, 0, none⟩) n c i j (i : Int) (j : Int) rfl rfl (by omega) (by omega)
  obtain ⟨hp2, hp2'⟩ := cut_to g n c i (i : Int) rfl (by omega)
  have hie : ((i : Int) == (j : Int)) = false := by rw [beq_eq_false_iff_ne]; omega
  obtain ⟨lA, lM, lC, oM, oC, lT, fT⟩ := Pieces.of q hn.out hm.out (by omega) hjn hq hT.out
  have cC := hR.cells j (by rw [hn.out]; omega)
  have hcl := hR.len
  have hheap := hR.heap
  have hA : cur.take (i * 2) = (L.take i).flatMap cells2 := hR.head i (by rw [hn.out]; omega)
  have hje : ((j : Int) == (n : Int)) = false := by rw [beq_eq_false_iff_ne]; omega
  obtain ⟨p5, hp5a, hp5, hp5'⟩ := cut_from (some ⟨g, 0, none⟩) n c j (j : Int) rfl (by omega)
  have hp5e := hp5a (by omega)
  rw [add_row] at hp5e
  subst hp5e
  rw [hq] at hp5 hp5'
  have hw1 : IntKind.i64.wrap ((i : Int) + (m : Int)) = (i : Int) + (m : Int) := by rw [IntKind.wrap_i64]; omega
  have hw2 : IntKind.i64.wrap ((i : Int) + (m : Int) + (q : Int)) = (i : Int) + (m : Int) + (q : Int) := by rw [IntKind.wrap_i64]; omega
  have hgt : ¬ (c : Int) < (i : Int) + (m : Int) + (q : Int) := by omega
  obtain ⟨hp6, hp6'⟩ := cut_to g n c (i + m + q) ((i : Int) + (m : Int) + (q : Int)) (by omega) hroom
  obtain ⟨p4, hp4a, hp4, hp4'⟩ := cut_from (some ⟨g, 0, none⟩) (i + m + q) c i (i : Int) rfl (by omega)
  have hp4e := hp4a (by omega)
  rw [add_row] at hp4e
  subst hp4e
  obtain ⟨p3, hp3a, hp3, hp3'⟩ := cut_from (some ⟨g, 0, none⟩) (i + m + q) c (i + m) ((i : Int) + (m : Int)) (by omega) (by omega)
  have hp3e := hp3a (by omega)
  rw [add_row] at hp3e
  subst hp3e
  obtain ⟨A, hA'⟩ : ∃ A, (L.take i).flatMap cells2 = A := ⟨_, rfl⟩
  obtain ⟨M, hM⟩ : ∃ M, l.flatMap cells2 = M := ⟨_, rfl⟩
  obtain ⟨C, hC⟩ : ∃ C, (L.drop j).flatMap cells2 = C := ⟨_, rfl⟩
  have dM : ∀ w : World, SrcOk w (some g) a2 l → 0 < M.length → ∃ ad, a2 = some ad ∧ ∀ j v, M[j]? = some v → w.cell? (ad.add j) = some v := fun w h hp => by rw [← hM] at hp ⊢; exact h.some_cells hp
  rw [hA'] at lA fT hA
  rw [hM] at lM oM fT
  rw [hC] at lC oC fT cC
  have HS := Lib.hid hs
  have e1 : i * 2 + m * 2 = (i + m) * 2 := by omega
  have e2 : (i + m) * 2 + q * 2 = (i + m + q) * 2 := by omega
  have d3 : C.length = Nat.min q (i + m + q - (i + m)) * 2 := by rw [lC]; simp only [Nat.min_def]; split <;> omega
  have d1 : M.length = Nat.min m (i + m + q - i) * 2 := by rw [lM]; simp only [Nat.min_def]; split <;> omega
  have hle : (j : Int) < (i : Int) + (m : Int) := by omega
  have hl0 : l ≠ [] := by intro e; have := hm.out; rw [e] at this; simp at this; omega
  have HOV := Lib.hid (fun (w1 : World) (h1 : SrcOk w1 (some g) a2 l) (h2 : RowIs w1 g c L cur) k q => (overlaps_not (p := some ⟨g, (i + m) * 2, none⟩) h1 rfl hl0 h2 (by omega) c2 ⟨_, rfl⟩ k q).2)
  rw [hm.out] at HOV
  have HHR := Lib.hid hR
  have key := sp_ba cur A M C (by rw [lA]; exact hA)  (by omega)
  rw [lA, lM, lC, e1, e2] at key
  have f1 : (i + m) * 2 + C.length ≤ cur.length := by omega
  have l1 := length_splice cur ((i + m) * 2) C f1
  have f2 : i * 2 + M.length ≤ (splice cur ((i + m) * 2) C).length := by omega
  have l2 := length_splice (splice cur ((i + m) * 2) C) (i * 2) M f2
  have HL3 := Lib.hid (l2.trans (l1.trans hcl))
  have HEND := Lib.hid (fun (w' : World) (hh : w'.heap[g]? = some (.cells (splice (splice cur ((i + m) * 2) C) (i * 2) M).toArray 26 (0, 0))) =>
    row_end (w' := w') (B := B) (g := g) (tot := i + m + q) (T := T) (cur' := splice (splice cur ((i + m) * 2) C) (i * 2) M) (c := c) hB hh (l2.trans (l1.trans hcl)) hroom hR.top lT key fT)
  have d4 : ∀ (k : Nat) v, C[k]? = some v → w.cell? ((⟨g, j * 2, none⟩ : Addr).add k) = some v := fun k v hv => by rw [Addr.add_lit]; exact cC k v hv
  clear hA' hM hC hn hm hs hR hT hA fT key e1 e2 l2 hcl cC
  go_enter Tryd.func61, Tryd.ntmps61
  go_wp2_with fail
  go_quiet (fail)
  obtain ⟨w1, hw1e⟩ : ∃ w1, w.drewN nq = w1 := ⟨_, rfl⟩
  have hS1 : SrcOk w1 (some g) a2 l := HS.out.grown (by rw [← hw1e]; exact ⟨rfl, rfl, rfl, Nat.le_refl _, fun _ _ _ => rfl⟩)
  have hg0 : w.grownBy w1 (some g) := by rw [← hw1e]; exact ⟨rfl, rfl, rfl, Nat.le_refl _, fun _ _ _ => rfl⟩
  have hheap1 : w1.heap[g]? = some (.cells cur.toArray 26 (0, 0)) := by rw [← hw1e]; exact hheap
  rw [hw1e]
  have hov := HOV.out w1 hS1 (by rw [← hw1e]; exact ⟨HHR.out.heap, HHR.out.len, HHR.out.fits, HHR.out.top, HHR.out.has⟩)
  have d4 : ∀ (k : Nat) v, C[k]? = some v → w1.cell? ((⟨g, j * 2, none⟩ : Addr).add k) = some v := by rw [← hw1e]; exact d4
  go_wp2_with (simp only [hov])
  go_region_law (refine step_copy_rows rfl _ _ rfl (some ⟨g, (i + m) * 2, none⟩) (some ⟨g, j * 2, none⟩) (i + m + q - (i + m)) (c - (i + m)) q (c - j) (by simp [Act.eval, Act.put]) (by simp [Act.eval, Act.put]) g ((i + m) * 2) cur 26 hheap1 C d3 (fun _ => ⟨rfl, _, rfl, d4⟩) f1 oC ?_; intro w4 HG4 hb4)
  have d2 := dM w4 (hS1.grown (w' := w4) ⟨hb4.os, hb4.tape, hb4.output, hb4.size, hb4.block⟩)
  clear hS1
  go_wp2_with (refine wpList_copy_rows rfl _ _ rfl (some ⟨g, i * 2, none⟩) a2 (i + m + q - i) (c - i) m c2 rfl rfl g (i * 2) _ 26 HG4.out M d1 (fun hp => ⟨rfl, d2 hp⟩) f2 oM ?_)
  intro w5 HG5 hb5
  go_wp2
  go_ret
  exact ⟨_, rfl, HEND.out w5 HG5.out, World.grownBy.trans hg0 (World.grownBy.trans ⟨hb4.os, hb4.tape, hb4.output, hb4.size, hb4.block⟩ hb5), Or.inl rfl⟩

/-- slices.Replace at spans. -/
theorem replace_lib (B : Nat) (a a2 : Option Addr) (i j c c2 : Nat) (L l : List Sp) (w : World) (hR : SpRow w B (.slice a L.length c) L) (hB : B ≤ w.heap.size)
    (hs : SrcOk w (Value.slice a L.length c).ownBlock a2 l) (hij : i ≤ j) (hj : j ≤ L.length) (hne : i = j → l ≠ []) (hsz : L.length + l.length ≤ 1000000) (T : List Sp) (hT : Hid (L.take i ++ l ++ L.drop j = T)) :
    Calls Tryd.prog 61 #[.slice a L.length c, .int .i64 (i : Int), .int .i64 (j : Int), .slice a2 l.length c2] w (RepDone B (.slice a L.length c) T w) := by
  obtain ⟨n, hn⟩ : ∃ n, L.length = n := ⟨_, rfl⟩
  obtain ⟨m, hm⟩ : ∃ m, l.length = m := ⟨_, rfl⟩
  by_cases he : i = j
  · subst he
    have hl := hne rfl
    have hmp : 0 < m := by rw [← hm]; exact List.length_pos_iff.2 hl
    have hcn : L.length ≤ c := by
      rcases hR.2 with ⟨e, h0⟩ | ⟨g', cap', cur', e, _, _, hf, _⟩
      · omega
      · injection e with e1 e2 e3; omega
    have kins : Calls Tryd.prog 67 #[.slice a n c, .int .i64 (i : Int), .slice a2 m c2] w (RepDone B (.slice a n c) T w) := by
      by_cases hin : i = n
      · subst hin
        have e : T = L ++ l := by
          rw [← hT.out, List.take_of_length_le (by omega), List.drop_of_length_le (by omega), List.append_nil]
        rw [e]
        rw [hn] at hs
        exact insert_end B a a2 i m c c2 L l w (Lib.hid hn) (Lib.hid hm) hR hB hs hmp (by omega)
      · obtain ⟨g, cur, rfl, hBg, hRow⟩ := RowIs.of hR (by omega)
        rw [hn] at hs
        by_cases hr : n + m ≤ c
        · exact insert_shift B g a2 i n m c c2 L l cur w (Lib.hid hn) (Lib.hid hm) hRow hBg hs hmp (by omega) hr (by omega) T hT
        · exact insert_grow B g a2 i n m c c2 L l cur w (Lib.hid hn) (Lib.hid hm) hRow hBg hs hmp (by omega) (by omega) (by omega) T hT
    rw [hn] at hj hcn ⊢
    rw [hm]
    obtain ⟨p1, -, hp1, hp1'⟩ := cut_mid a n c i i (i : Int) (i : Int) rfl rfl (by omega) (by omega)
    have hie : ((i : Int) == (i : Int)) = true := by simp
    clear hR hs hne hl hn hm hT
    go_enter Tryd.func61, Tryd.ntmps61
    go_wp2_with (go_at_call 67; (with_reducible refine kins.mono ?_); rintro e w1 ⟨v', rfl, hA, hG, hF⟩)
    obtain ⟨a', c', rfl⟩ := hA.slice
    go_wp2
    go_ret
    exact ⟨_, rfl, hA, hG, hF⟩
  · obtain ⟨g, cur, rfl, hBg, hRow⟩ := RowIs.of hR (by omega)
    rw [hn] at hs ⊢
    rw [hm]
    rw [hn] at hj
    by_cases hjn : j = n
    · by_cases hr : i + m ≤ c
      · exact replace_tail B g a2 i j n m (n - j) c c2 L l cur w (Lib.hid hn) (Lib.hid hm) hRow hBg hs (by omega) hj (Lib.hid rfl) (by omega) T hT hjn hr
      · exact replace_tail_grow B g a2 i j n m (n - j) c c2 L l cur w (Lib.hid hn) (Lib.hid hm) hRow hBg hs (by omega) hj (Lib.hid rfl) (by omega) T hT hjn (by omega)
    · by_cases hr : i + m + (n - j) ≤ c
      · by_cases hl : i + m ≤ j
        · exact replace_less B g a2 i j n m (n - j) c c2 L l cur w (Lib.hid hn) (Lib.hid hm) hRow hBg hs (by omega) hj (Lib.hid rfl) (by omega) T hT (by omega) hr hl
        · exact replace_more B g a2 i j n m (n - j) c c2 L l cur w (Lib.hid hn) (Lib.hid hm) hRow hBg hs (by omega) hj (Lib.hid rfl) (by omega) T hT (by omega) hr (by omega)
      · exact replace_grow B g a2 i j n m (n - j) c c2 L l cur w (Lib.hid hn) (Lib.hid hm) hRow hBg hs (by omega) hj (Lib.hid rfl) (by omega) T hT (by omega) (by omega)

end Go.Proofs.YtdkenokjdiamhaaDoor

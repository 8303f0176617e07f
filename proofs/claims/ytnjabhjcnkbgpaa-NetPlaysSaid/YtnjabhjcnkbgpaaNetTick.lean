/- Ticks; healing; what is no network. -/
import Derived.Test.YtnjabhjcnkbgpaaNetDel
set_option maxRecDepth 20000
set_option linter.unusedSimpArgs false
set_option linter.unusedVariables false
namespace Go.Proofs.Ytnjabhjcnkbgpaa
open Go.RowKit

section
variable {w : World} {B b : Nat} {V : Value} {S : NS}
/-- Of the messages the first k have grown older. -/
def oldL (l : List Ml) (k : Nat) : List Ml := (l.take k).map older ++ l.drop k
theorem old_len (l : List Ml) (k : Nat) : (oldL l k).length = l.length := by unfold oldL; rw [List.length_append, List.length_map, List.length_take, List.length_drop]; omega
theorem old_all (l : List Ml) : oldL l l.length = l.map older := by unfold oldL; rw [List.take_length, List.drop_length, List.append_nil]
theorem old_at {l : List Ml} {k : Nat} (h : k < l.length) (h2 : k < (oldL l k).length) : (oldL l k)[k] = l[k] := by
  have e : (oldL l k)[k]? = l[k]? := by
    unfold oldL
    rw [List.getElem?_append_right (by rw [List.length_map, List.length_take]; omega), List.length_map, List.length_take, List.getElem?_drop]
    congr 1; omega
  rw [List.getElem?_eq_getElem h, List.getElem?_eq_getElem h2] at e
  injection e
theorem old_set {l : List Ml} {k : Nat} (h : k < l.length) : ((oldL l k).flatMap mcells).set (k * 5 + 4) (.int .i64 (inc l[k].a)) = (oldL l (k + 1)).flatMap mcells := by
  unfold oldL
  have e : (l.take k).length = k := by rw [List.length_take]; omega
  rw [List.drop_eq_getElem_cons h, List.flatMap_append, List.flatMap_cons, List.take_succ_eq_append_getElem h, List.map_append, List.flatMap_append, List.flatMap_append]
  have e2 : (((l.take k).map older).flatMap mcells).length = k * 5 := by rw [flat_len, List.length_map, e]
  rw [List.set_append_right _ _ (by rw [e2]; omega), e2, Nat.add_sub_cancel_left, List.append_assoc]
  rfl
theorem old_ends {l : List Ml} (h : ∀ m ∈ l, endB m.f = true ∧ endB m.t = true ∧ m.s.size ≤ 80000) : ∀ m ∈ l.map older, endB m.f = true ∧ endB m.t = true ∧ m.s.size ≤ 80000 := by
  intro m hm
  obtain ⟨x, hx, rfl⟩ := List.mem_map.1 hm
  exact h x hx
set_option maxHeartbeats 1000000 in
theorem tick_is (h : NAt w B b V S) : Calls Try.prog 22 #[.pointer (some ⟨b, 0, none⟩)] w (NDone B b V (tickS S) (.tuple #[]) w) := by
  obtain ⟨a, c, rfl⟩ := h.row.slice
  obtain ⟨n, hn⟩ : ∃ n, S.mail.length = n := ⟨_, rfl⟩
  have HN := Lib.hid hn
  have H := Lib.hid h
  have c0 := h.c0
  have hn2 := h.len
  rw [hn] at c0 hn2 ⊢
  clear h hn
  go_enter Try.func22, Try.ntmps22
  go_wp2
  go_loopw [10] (fun i wr => ∃ k : Nat, k ≤ n ∧ i = .int .i64 (k : Int) ∧ NW w wr B b (.slice a n c) (.slice a n c) { S with mail := oldL S.mail k }) (fun i _ => n - (intOf i).toNat)
  case atStart =>
    have q := NW.refl H.out
    rw [HN.out] at q
    refine ⟨0, by omega, rfl, ?_⟩
    have e : oldL S.mail 0 = S.mail := by unfold oldL; simp
    rw [e]; exact q
  case round =>
    obtain ⟨k, hk, rfl, hw⟩ := hrel
    obtain ⟨w3, hw3⟩ : ∃ x, x = wr := ⟨_, rfl⟩
    subst hw3
    have HW := Lib.hid hw
    have c3 := hw.at_.c0
    have hrow := hw.at_.row
    clear hw c0
    by_cases hkn : k < n
    · have hki : (k : Int) < (n : Int) := by omega
      have hkl : k < S.mail.length := by rw [HN.out]; exact hkn
      have hw1 : IntKind.i64.wrap ((k : Int) + 1) = (k : Int) + 1 := by rw [IntKind.wrap_i64]; omega
      have hko : k < (oldL S.mail k).length := by rw [old_len]; exact hkl
      have hrow' : MRow w3 B (.slice a n c) (oldL S.mail k) := hrow
      obtain ⟨g, rfl, hng, hBg, hgl, hfz, hat⟩ := hrow'.block (by omega)
      have m4 := (hat k hko).c4
      rw [old_at hkl] at m4
      have f4 := hfz (k * 5 + 4)
      obtain ⟨z, hz⟩ : ∃ z, IntKind.i64.wrap (S.mail[k].a + 1) = z := ⟨_, rfl⟩
      obtain ⟨x, hx⟩ : ∃ x, S.mail[k].a = x := ⟨_, rfl⟩
      have hset := old_set hkl
      unfold inc at hset
      rw [hz] at hset
      rw [hx] at hz m4
      have hNX : NW w (w3.setCell ⟨g, k * 5 + 4, none⟩ (.int .i64 z)) B b (.slice (some ⟨g, 0, none⟩) n c) (.slice (some ⟨g, 0, none⟩) n c) { S with mail := oldL S.mail (k + 1) } := by
        have hl0 : (oldL S.mail k).length = n := by rw [old_len, HN.out]
        have hl1 : (oldL S.mail (k + 1)).length = n := by rw [old_len, HN.out]
        have hst := World.ownsRow.stored (show w3.ownsRow B 34 5 (.slice (some ⟨g, 0, none⟩) n c) n ((oldL S.mail k).flatMap mcells) by have := hrow'; unfold MRow at this; rw [hl0] at this; exact this) (k * 5 + 4) (.int .i64 z)
        rw [hset] at hst
        have hgb : g ≠ b := fun e => HW.out.at_.own (by rw [e]; rfl)
        refine ⟨⟨(heap_setCell_other _ _ _ _ (fun e => hgb e.symm)).trans HW.out.at_.hb, by unfold MRow; rw [hl1]; exact hst.1, HW.out.at_.base, by rw [hl1]; exact hn2, ?_⟩, Frm.trans (Mo := nmods b _) (Mo' := nmods b (.slice (some ⟨g, 0, none⟩) n c)) HW.out.frm (Frm.set _ _ _ _ (Or.inr rfl)) fun i hi => Or.inl hi, fun _ e => Or.inl e⟩
        intro m hm
        unfold oldL at hm
        rcases List.mem_append.1 hm with hm | hm
        · obtain ⟨y, hy, rfl⟩ := List.mem_map.1 hm
          exact H.out.ends y (List.mem_of_mem_take hy)
        · exact H.out.ends m (List.mem_of_mem_drop hm)
      have HNX := Lib.hid hNX
      clear hNX hset hx hat hfz hrow hrow' hkn hko hng
      go_wp2
      go_roundw
      case rel => exact ⟨k + 1, by omega, by go_num, HNX.out⟩
      case measure => simp [intOf]; omega
    · have hki : ¬ (k : Int) < (n : Int) := by omega
      obtain rfl : k = n := by omega
      have HE := Lib.hid (show tickS S = { S with mail := oldL S.mail k } by unfold tickS; rw [← old_all, HN.out])
      clear hkn
      go_wp2
      go_end0
      exact ⟨_, rfl, by rw [HE.out]; exact HW.out⟩
abbrev BTT : TypeId := 63
theorem zeroB (w : World) : (zeroValue 51).run Try.prog w = .ok (.agg (Array.replicate 64 (.bool false))) w := by kernel_rfl
theorem zgen (x : Value) (n m : Nat) (hm : 0 < m) : (Builtin.zeroCells (Array.replicate m x) n).toList = List.replicate (n * m) x := by
  unfold Builtin.zeroCells
  refine List.ext_getElem? fun i => ?_
  rw [Array.size_replicate, Array.toList_map, Array.toList_range, List.getElem?_map, List.getElem?_replicate]
  by_cases h : i < n * m
  · rw [List.getElem?_range h, if_pos h, Option.map_some, getElem!_pos _ _ (by rw [Array.size_replicate]; exact Nat.mod_lt _ hm), Array.getElem_replicate]
  · rw [if_neg h, List.getElem?_eq_none (by rw [List.length_range]; omega), Option.map_none]
theorem wpList_clear_gen {ops : Array Oper} {rest : List Oper} {o : Oper} {a : Act} {Q : Exit → Act → World → Prop} (hgd : o.guard = none) (s : Operand)
    (ho : o.op = .call { callee := .builtin .clear, args := #[s], argTypes := #[BTT] }) (v : Value) (hs : a.eval s = v) (w' : World) (hrun : (Builtin.clear_ #[BTT] o.type #[v]).run Try.prog w = .ok (.tuple #[]) w')
    (h : wpList Try.prog ops Q rest (a.put o.dst (.tuple #[])) w') : wpList Try.prog ops Q (o :: rest) a w := by
  refine wpList_plain hgd fun K hK => ?_
  unfold Oper.wp
  simp only [execOp, ho, resolve, invoke, builtin, Sem.run_bind, Sem.run_pure, Result.andThen_ok, List.map_toArray, List.map_cons, List.map_nil, hs, hrun]
  exact hK _ _ h
/-- All partitions are cleared. -/
theorem wpList_clear_par {ops : Array Oper} {rest : List Oper} {o : Oper} {a : Act} {Q : Exit → Act → World → Prop} (hgd : o.guard = none) (s : Operand)
    (ho : o.op = .call { callee := .builtin .clear, args := #[s], argTypes := #[BTT] }) (c : Nat) (hs : a.eval s = .slice (some ⟨b, 2, none⟩) 64 c) (hat : NAt w B b V S)
    (h : ∀ w', NW w w' B b V V (healS S) → wpList Try.prog ops Q rest (a.put o.dst (.tuple #[])) w') : wpList Try.prog ops Q (o :: rest) a w := by
  have hsz : (ncells V S.last S.par).size = 4098 := by unfold ncells; simp [pcells_len]
  have hzl : (Builtin.zeroCells (Value.agg (Array.replicate 64 (Value.bool false))).cells 64).toList = List.replicate 4096 (Value.bool false) := zgen (.bool false) 64 64 (by decide)
  have hrun := run_clear_rows (P := Try.prog) w BTT 51 o.type (.agg (Array.replicate 64 (Value.bool false))) Try.underlying63 zeroB b 2 64 c (ncells V S.last S.par) 54 hat.hb (by decide) (by rw [hsz]; simp [Value.cells]) (by
    intro v hv
    rw [hzl] at hv
    rw [List.eq_of_mem_replicate hv]; rfl)
  rw [hzl] at hrun
  have hcells : ((ncells V S.last S.par).toList.take 2 ++ List.replicate 4096 (Value.bool false) ++ (ncells V S.last S.par).toList.drop (2 + (List.replicate 4096 (Value.bool false)).length)).toArray = ncells V S.last fun _ => false := by
    have hd : (ncells V S.last S.par).toList.drop (2 + (List.replicate 4096 (Value.bool false)).length) = [] := by
      refine List.drop_of_length_le ?_
      rw [List.length_replicate, Array.length_toList, hsz]; omega
    rw [hd, List.append_nil, ← pcells_no]
    unfold ncells
    rfl
  rw [hcells] at hrun
  have hf := h _ (NW.par hat (q := fun _ => false) (setRow_heap w b _ _ 54 _ hat.hb) (fun k hk => setRow_other w b k _ hk) rfl rfl rfl (by simp [World.setRow]))
  exact wpList_clear_gen hgd s ho _ hs _ hrun hf
theorem heal_is (h : NAt w B b V S) : Calls Try.prog 21 #[.pointer (some ⟨b, 0, none⟩)] w (NDone B b V (healS S) (.tuple #[]) w) := by
  have H := Lib.hid h
  clear h
  go_enter Try.func21, Try.ntmps21
  go_wp2_with (refine wpList_clear_par rfl _ rfl 64 rfl H.out ?_; intro w2 hw2; (have HW := Lib.hid hw2); clear hw2)
  go_end0
  exact ⟨_, rfl, HW.out⟩
end
end Go.Proofs.Ytnjabhjcnkbgpaa

/- Contracts of the laws' own short, few and same. -/
import Derived.Test.YtanlnoephhjhhaaDoorFrameRows
import Derived.BigQuiet
import Derived.WalkSmall
import Derived.Maps.AppendAt
namespace Go.Proofs.YtanlnoephhjhhaaDoor
open Go.RowKit Go.Proofs.YtanlnoephhjhhaaDoor.Vi

theorem short_is (s t : ByteArray) (n : Nat) (m : Int) (w : World) (hm : m = (n : Int)) (hn : n ≤ 2000) (ht : Hid (cutB s n = t)) : Calls Tryd.prog 15 #[.string s, .int .i64 m] w fun e w' => e = .returned (.string t) ∧ w = w' := by
  by_cases h : n < s.size
  · have H := Lib.hid (show s.extract 0 n = t by rw [← ht.out]; exact (if_pos h).symm)
    subst hm
    go_enter Tryd.func15, Tryd.ntmps15
    go_wp2
    go_ret
    exact ⟨by rw [← H.out]; rfl, rfl⟩
  · have H := Lib.hid (show s = t by rw [← ht.out]; exact (if_neg h).symm)
    subst hm
    go_enter Tryd.func15, Tryd.ntmps15
    go_wp2
    go_ret
    exact ⟨by rw [← H.out]; rfl, rfl⟩

/-- At most twenty texts, of three hundred bytes at most. -/
def fewL (l : List ByteArray) : List ByteArray := (l.take 20).map fun s => cutB s 300
theorem fewL_len (l : List ByteArray) : (fewL l).length = min 20 l.length := by unfold fewL; simp
theorem fewL_size (l : List ByteArray) : ∀ s ∈ fewL l, s.size ≤ 300 := by
  intro s hs
  obtain ⟨x, _, rfl⟩ := List.mem_map.1 hs
  exact (cutB_size x 300).1
theorem few_snoc (l : List ByteArray) (k : Nat) (h : k < l.length) : (l.take (k + 1)).map (fun s => cutB s 300) = (l.take k).map (fun s => cutB s 300) ++ [cutB l[k] 300] := by
  rw [List.take_succ_eq_append_getElem h, List.map_append]; rfl
/-- What few leaves. -/
def FewDone (l : List ByteArray) (w : World) (e : Ending) (w' : World) : Prop := ∃ v, e = .returned v ∧ SRow w' w.heap.size v l ∧ (l = [] → v = .slice none 0 0) ∧ Below w.heap.size w w'

set_option maxHeartbeats 1000000 in
theorem few_is (a : Option Addr) (len cap : Nat) (w0 : World) (h : ArgStrs w0 a len cap) : ∃ m : List ByteArray, m.length ≤ 20 ∧ (∀ s ∈ m, s.size ≤ 300) ∧ ∀ w, Below w0.heap.size w0 w → Calls Tryd.prog 11 #[.slice a len cap] w (FewDone m w) := by
  obtain ⟨i0, hi, hz0, hz1, hz2⟩ := info_parts infoS
  rcases ss_of_args h with rfl | ⟨l, rfl, hs, hsz⟩
  · refine ⟨[], by simp, by simp, fun w _ => ?_⟩
    clear hi hz0 hz1 hz2
    go_enter Tryd.func11, Tryd.ntmps11
    go_wp2
    go_rounds 1
    go_ret
    exact ⟨_, rfl, SRow.nil _ _, fun _ => rfl, Below.refl _ _⟩
  · refine ⟨fewL l, by rw [fewL_len]; omega, fewL_size l, fun w hb0 => ?_⟩
    have hs := hs.below hb0
    clear hb0
    have hll : l.length ≤ maxLen := by
      obtain ⟨_, _, e, h2, h3, _⟩ := hs
      omega
    unfold maxLen at hll
    have HS := Lib.hid hs
    have HZ := Lib.hid hsz
    clear h hs hsz
    go_enter Tryd.func11, Tryd.ntmps11
    go_wp2
    go_loopw [3, 4] (fun o i wr => ∃ k : Nat, k ≤ 20 ∧ k ≤ l.length ∧ i = .int .i64 (k : Int) ∧ SRow wr w.heap.size o ((l.take k).map fun s => cutB s 300) ∧ (k = 0 → o = .slice none 0 0) ∧ Below w.heap.size w wr) (fun _ i _ => 20 - (intOf i).toNat)
    case atStart => exact ⟨0, by omega, by omega, rfl, SRow.nil _ _, fun _ => rfl, Below.refl _ _⟩
    case round =>
      obtain ⟨k, hk20, hkl, rfl, hR, hnil, hbel⟩ := hrel
      obtain ⟨a1, c1, rfl⟩ := hR.slice
      have hln : ((l.take k).map fun s => cutB s 300).length = k := by rw [List.length_map, List.length_take]; omega
      by_cases hlt : k < l.length
      · have hlt2 : (k : Int) < (l.length : Int) := by omega
        by_cases h20 : k < 20
        · have h20i : (k : Int) < 20 := by omega
          obtain ⟨b, off, rfl, -, hc⟩ := HS.out.below (show Below w.heap.size w wr from hbel) |>.cell (by omega)
          have hck := hc k hlt
          obtain ⟨x, hx⟩ : ∃ x, l[k] = x := ⟨_, rfl⟩
          rw [hx] at hck
          obtain ⟨y, hy⟩ : ∃ y, cutB x 300 = y := ⟨_, rfl⟩
          have hsh := fun w => short_is x y 300 300 w rfl (by omega) hy
          have hBr : w.heap.size ≤ wr.heap.size := hbel.size
          have HX := Lib.hid (show cutB l[k] 300 = y by rw [hx]; exact hy)
          have HB := Lib.hid hbel
          clear hc hx hy hbel
          unfold SRow at hR
          rw [hln] at hR ⊢
          have hne : ∀ q, (Value.slice a1 k c1).ownBlock = some q → w.heap.size ≤ q := fun q hq => (World.ownsRow.lt hR q hq).1
          go_wp2_with (first
            | (go_at_call 15; (with_reducible refine (hsh _).mono ?_); rintro e w1 ⟨rfl, rfl⟩)
            | (at_builtin; refine wpList_append_own _ rfl _ _ 22 rfl w.heap.size 9 i0 (.string ⟨#[]⟩) 1 16 Tryd.underlying22 hi hz0 hz1 hz2 rfl (by decide) _ _ _ rfl (hR.alloc _) ⟨wr.heap.size, 0, none⟩ 1 1 [.string y] rfl rfl ?c1 ?c2 ?c3 ?c4 ?c5 ?_))
          case c1 =>
            intro j u hj
            match j, hj with
            | 0, hj => simp at hj; subst hj; simp [Addr.add]
          case c2 => intro u hu; simp at hu; subst hu; rfl
          case c3 => unfold maxLen; omega
          case c4 => omega
          case c5 => simp; omega
          intro v' w3 hown3 hgrow _
          have hB3 : Below w.heap.size wr w3 := ((Below.refl w.heap.size wr).alloc hBr _).grown hgrow (by simp; omega) hne
          have hR3 : SRow w3 w.heap.size v' ((l.take (k + 1)).map fun s => cutB s 300) := by
            unfold SRow
            have hl2 : ((l.take (k + 1)).map fun s => cutB s 300).length = k + 1 := by rw [List.length_map, List.length_take]; omega
            rw [hl2, few_snoc l k hlt, HX.out, List.map_append]
            simpa using hown3
          have HR3 := Lib.hid hR3
          have HB3 := Lib.hid (HB.out.trans hB3)
          clear hown3 hgrow hR3 hB3 hR hne hnil
          go_wp2
          go_roundw
          case rel => exact ⟨k + 1, by omega, by omega, by go_num, HR3.out, fun h => absurd h (Nat.succ_ne_zero k), HB3.out⟩
          case measure => simp [intOf]; omega
        · obtain rfl : k = 20 := by omega
          have e : fewL l = (l.take 20).map fun s => cutB s 300 := rfl
          have HR := Lib.hid hR
          rw [hln, e]
          clear hR e hnil
          go_wp2
          go_ret
          refine ⟨_, rfl, ?_, fun h => absurd (congrArg List.length h) (by rw [show fewL l = (l.take 20).map fun s => cutB s 300 from rfl, hln]; simp), hbel⟩
          have := HR.out
          rw [hln] at this
          exact this
      · have hlt2 : ¬ (k : Int) < (l.length : Int) := by omega
        have HR := Lib.hid hR
        have e : fewL l = (l.take k).map fun s => cutB s 300 := by
          unfold fewL; rw [List.take_of_length_le (by omega), List.take_of_length_le (by omega)]
        have HE := Lib.hid e
        have HNIL := Lib.hid hnil
        rw [hln] at HNIL ⊢
        clear hR e hnil
        go_wp2
        go_ret
        rw [HE.out]
        refine ⟨_, rfl, ?_, fun h => HNIL.out (by rw [← hln, h]; rfl), hbel⟩
        have := HR.out
        rw [hln] at this
        exact this

theorem head_run (a : Option Addr) (n c k : Nat) (hk : k ≤ c) (w : World) : (Instr.slice 22 (.slice a n c) none (some (.int .i64 (k : Int))) none).run Tryd.prog w = .ok (sliced a 0 k c 1) w := by
  rw [run_slice_h (P := Tryd.prog) w 22 a n c Tryd.underlying22 .i64 (k : Int) (by omega) (by omega)]
  have : (sizeOf (Tryd.prog.elem 22)).run Tryd.prog w = .ok 1 w := by kernel_rfl
  rw [this, Int.toNat_natCast]; rfl
theorem tail_run (a : Option Addr) (n c k : Nat) (hk : k ≤ n) (w : World) : (Instr.slice 22 (.slice a n c) (some (.int .i64 (k : Int))) none none).run Tryd.prog w = .ok (sliced a k n c 1) w := by
  rw [run_slice_l (P := Tryd.prog) w 22 a n c Tryd.underlying22 .i64 (k : Int) (by omega) (by omega)]
  have : (sizeOf (Tryd.prog.elem 22)).run Tryd.prog w = .ok 1 w := by kernel_rfl
  rw [this, Int.toNat_natCast]; rfl
/-- What a cut at the head, or at the tail, makes of a slice of texts. -/
def HeadRun (a : Option Addr) (n c k : Nat) (v : Value) : Prop := (∀ w, (Instr.slice 22 (.slice a n c) none (some (.int .i64 (k : Int))) none).run Tryd.prog w = .ok v w) ∧ ∀ w, (Instr.sliceAt 22 (.slice a n c) none (some (.int .i64 (k : Int))) none).run Tryd.prog w = .ok v w
def TailRun (a : Option Addr) (n c k : Nat) (v : Value) : Prop := (∀ w, (Instr.slice 22 (.slice a n c) (some (.int .i64 (k : Int))) none none).run Tryd.prog w = .ok v w) ∧ ∀ w, (Instr.sliceAt 22 (.slice a n c) (some (.int .i64 (k : Int))) none none).run Tryd.prog w = .ok v w
theorem SRow.cutHead {w : World} {B : Nat} {a : Option Addr} {n c : Nat} {xs : List ByteArray} (h : SRow w B (.slice a n c) xs) (k : Nat) (hk : k ≤ xs.length) : ∃ v, HeadRun a n c k v ∧ Ss w v (xs.take k) := by
  obtain ⟨h1, h2⟩ := h.head k hk
  exact ⟨_, ⟨head_run a n c k h1, fun w => (run_sliceAt_slice (P := Tryd.prog) w 22 _ _ _ _ Tryd.underlying22).trans (head_run a n c k h1 w)⟩, h2⟩
theorem SRow.cutTail {w : World} {B : Nat} {a : Option Addr} {n c : Nat} {xs : List ByteArray} (h : SRow w B (.slice a n c) xs) (k : Nat) (hk : k ≤ xs.length) : ∃ v, TailRun a n c k v ∧ Ss w v (xs.drop k) := by
  obtain ⟨h1, h2⟩ := h.tail k hk
  exact ⟨_, ⟨tail_run a n c k (by omega), fun w => (run_sliceAt_slice (P := Tryd.prog) w 22 _ _ _ _ Tryd.underlying22).trans (tail_run a n c k (by omega) w)⟩, h2⟩

/-- Slices of the call's own that lie in no one block. -/
def Apart (u v : Value) : Prop := u.ownBlock = none ∨ u.ownBlock ≠ v.ownBlock
theorem Apart.symm {u v : Value} (h : Apart u v) : Apart v u := by
  rcases h with h | h
  · cases e : v.ownBlock with
    | none => exact Or.inl e
    | some x => exact Or.inr (by rw [e, h]; simp)
  · exact Or.inr fun e => h e.symm
theorem Apart.nil (v : Value) : Apart (.slice none 0 0) v := Or.inl rfl
/-- A slice of the call's own has become v'. -/
structure Grew (w w' : World) (v v' : Value) : Prop where
  grown : w.grownBy w' v.ownBlock
  spot : v'.ownBlock = v.ownBlock ∨ ∃ q, v'.ownBlock = some q ∧ w.heap.size ≤ q
theorem Grew.keep {w w' : World} {v v' u : Value} (G : Grew w w' v v') {B size n : Nat} {e : TypeId} {xs : List Value} (h : w.ownsRow B e size u n xs) (hap : Apart u v) : w'.ownsRow B e size u n xs ∧ Apart u v' := by
  refine ⟨h.kept G.grown hap, ?_⟩
  rcases G.spot with e | ⟨q, e, hq⟩
  · rcases hap with h1 | h1
    · exact Or.inl h1
    · exact Or.inr (by rw [e]; exact h1)
  · cases e2 : u.ownBlock with
    | none => exact Or.inl e2
    | some p =>
      have := (h.lt p e2).2
      exact Or.inr (by rw [e, e2]; simp; omega)
theorem Grew.below {w w' : World} {v v' : Value} (G : Grew w w' v v') {B C size n : Nat} {e : TypeId} {xs : List Value} (h : w.ownsRow B e size v n xs) (hC : C ≤ B) (hw : C ≤ w.heap.size) : Below C w w' :=
  (Below.refl C w).grown G.grown hw fun q hq => Nat.le_trans hC (h.lt q hq).1
/-- One text appended to a slice of the call's own: for the walk. It lies in a block of its own. -/
theorem wpList_srow {w : World} {ops : Array Oper} {rest : List Oper} {o : Oper} {a : Act} {Q : Exit → Act → World → Prop} (hgd : o.guard = none) (sl x : Operand)
    (ho : o.op = .call { callee := .builtin .append, args := #[sl, x], argTypes := #[22, 22] })
    (B : Nat) (v : Value) (xs : List ByteArray) (hs : a.eval sl = v) (y : ByteArray) (hx : a.eval x = .slice (some ⟨w.heap.size, 0, none⟩) 1 1) (hown : SRow w B v xs) (hB : B ≤ w.heap.size) (hl : xs.length ≤ 1000000)
    (h : ∀ v' w', SRow w' B v' (xs ++ [y]) → Below B w w' → Grew w w' v v' → wpList Tryd.prog ops Q rest (a.put o.dst v') w') : wpList Tryd.prog ops Q (o :: rest) a (w.alloc (.cells #[.string y] 9)) := by
  obtain ⟨i0, hi, hz0, hz1, hz2⟩ := info_parts infoS
  have hr := hown.later ((Below.refl _ w).alloc (Nat.le_refl _) (.cells #[.string y] 9))
  refine wpList_append_own_at (w := w.alloc (.cells #[.string y] 9)) hgd sl x 22 ho B 9 i0 (.string ⟨#[]⟩) 1 16 Tryd.underlying22 hi hz0 hz1 hz2 rfl (by decide) v xs.length (xs.map Value.string) hs hr ⟨w.heap.size, 0, none⟩ 1 1 [.string y] hx rfl ?_ ?_ (by unfold maxLen; omega) (by omega) (by simp; omega) ?_
  · intro j u hj
    match j, hj with
    | 0, hj => simp at hj; subst hj; simp [Addr.add]
  · intro u hu; simp at hu; subst hu; rfl
  · intro v' w' h2 h3 _ h4
    have G : Grew w w' v v' := ⟨(World.grownBy_alloc w _ _).trans h3, by
      rcases h4 with h4 | h4
      · exact Or.inl h4
      · exact Or.inr ⟨_, h4, by simp⟩⟩
    refine h v' w' ?_ (G.below hown (Nat.le_refl _) hB) G
    unfold SRow
    rw [List.length_append, List.map_append]
    exact h2
/-- One number appended to a slice of the call's own: for the walk. It lies in a block of its own. -/
theorem wpList_irow {w : World} {ops : Array Oper} {rest : List Oper} {o : Oper} {a : Act} {Q : Exit → Act → World → Prop} (hgd : o.guard = none) (sl x : Operand)
    (ho : o.op = .call { callee := .builtin .append, args := #[sl, x], argTypes := #[38, 38] })
    (B : Nat) (v : Value) (xs : List Int) (hs : a.eval sl = v) (y : Int) (hx : a.eval x = .slice (some ⟨w.heap.size, 0, none⟩) 1 1) (hown : IRow w B v xs) (hB : B ≤ w.heap.size) (hl : xs.length ≤ 1000000)
    (h : ∀ v' w', IRow w' B v' (xs ++ [y]) → Below B w w' → Grew w w' v v' → wpList Tryd.prog ops Q rest (a.put o.dst v') w') : wpList Tryd.prog ops Q (o :: rest) a (w.alloc (.cells #[.int .i64 y] 3)) := by
  obtain ⟨i0, hi, hz0, hz1, hz2⟩ := info_parts infoI
  have hr := hown.later ((Below.refl _ w).alloc (Nat.le_refl _) (.cells #[.int .i64 y] 3))
  refine wpList_append_own_at (w := w.alloc (.cells #[.int .i64 y] 3)) hgd sl x 38 ho B 3 i0 (.int .i64 0) 1 8 Tryd.underlying38 hi hz0 hz1 hz2 rfl (by decide) v xs.length (xs.map icell) hs hr ⟨w.heap.size, 0, none⟩ 1 1 [.int .i64 y] hx rfl ?_ ?_ (by unfold maxLen; omega) (by omega) (by simp; omega) ?_
  · intro j u hj
    match j, hj with
    | 0, hj => simp at hj; subst hj; simp [Addr.add]
  · intro u hu; simp at hu; subst hu; rfl
  · intro v' w' h2 h3 _ h4
    have G : Grew w w' v v' := ⟨(World.grownBy_alloc w _ _).trans h3, by
      rcases h4 with h4 | h4
      · exact Or.inl h4
      · exact Or.inr ⟨_, h4, by simp⟩⟩
    refine h v' w' ?_ (G.below hown (Nat.le_refl _) hB) G
    unfold IRow
    rw [List.length_append, List.map_append]
    exact h2

/-- Whether two lists of texts are the same. -/
def sameS (a b : List ByteArray) : Bool := decide (a = b)
theorem sameS_len {a b : List ByteArray} (h : a.length ≠ b.length) : sameS a b = false := by
  unfold sameS; simp; intro e; exact h (by rw [e])
theorem sameS_no {a b : List ByteArray} {k : Nat} (h1 : k < a.length) (h2 : k < b.length) (h : a[k] ≠ b[k]) : sameS a b = false := by
  unfold sameS; simp; rintro rfl; exact h rfl
theorem sameS_yes {a b : List ByteArray} (h : a.length = b.length) (hk : ∀ j (h1 : j < a.length) (h2 : j < b.length), a[j] = b[j]) : sameS a b = true := by
  unfold sameS; simp; exact List.ext_getElem h hk
theorem sameS_self (a : List ByteArray) : sameS a a = true := by unfold sameS; simp

set_option maxHeartbeats 1000000 in
theorem same_is (v1 v2 : Value) (l1 l2 : List ByteArray) (w : World) (h1 : Ss w v1 l1) (h2 : Ss w v2 l2) : Calls Tryd.prog 20 #[v1, v2] w fun e w' => e = .returned (.bool (sameS l1 l2)) ∧ Below w.heap.size w w' := by
  obtain ⟨z, hz⟩ : ∃ z, sameS l1 l2 = z := ⟨_, rfl⟩
  have HZ := Lib.hid hz
  rw [hz]
  clear hz
  have hs1 : l1.length ≤ maxLen := by obtain ⟨_, _, _, h, h', _⟩ := h1; omega
  have hs2 : l2.length ≤ maxLen := by obtain ⟨_, _, _, h, h', _⟩ := h2; omega
  unfold maxLen at hs1 hs2
  obtain ⟨a1, cap1, rfl⟩ := h1.slice
  obtain ⟨a2, cap2, rfl⟩ := h2.slice
  have H1 := Lib.hid h1
  have H2 := Lib.hid h2
  clear h1 h2
  by_cases hlen : l1.length = l2.length
  · obtain ⟨n, hn⟩ : ∃ n, l2.length = n := ⟨_, rfl⟩
    have HN := Lib.hid hn
    have HN1 := Lib.hid (hlen.trans hn)
    rw [hlen.trans hn, hn]
    rw [hn] at hs2
    clear hlen hn hs1
    go_enter Tryd.func20, Tryd.ntmps20
    go_wp2
    go_loopw [5] (fun i wr => ∃ k : Nat, k ≤ n ∧ i = .int .i64 (k : Int) ∧ Below w.heap.size w wr ∧ ∀ j (h1 : j < l1.length) (h2 : j < l2.length), j < k → l1[j] = l2[j]) (fun i _ => n - (intOf i).toNat)
    case atStart => exact ⟨0, by omega, rfl, Below.refl _ _, fun j _ _ hj => absurd hj (Nat.not_lt_zero _)⟩
    case round =>
      obtain ⟨k, hk, rfl, hbel, hall⟩ := hrel
      have HALL := Lib.hid hall
      clear hall
      by_cases hkn : k < n
      · have hk2 : (k : Int) < (n : Int) := by omega
        have hkl1 : k < l1.length := by rw [HN1.out]; exact hkn
        have hkl2 : k < l2.length := by rw [HN.out]; exact hkn
        obtain ⟨b1, off1, rfl, -, g1⟩ := (H1.out.below hbel).cell (by omega)
        obtain ⟨b2, off2, rfl, -, g2⟩ := (H2.out.below hbel).cell (by omega)
        have c1 := g1 k hkl1
        have c2 := g2 k hkl2
        obtain ⟨x, hx⟩ : ∃ x, l1[k] = x := ⟨_, rfl⟩
        obtain ⟨y, hy⟩ : ∃ y, l2[k] = y := ⟨_, rfl⟩
        rw [hx] at c1
        rw [hy] at c2
        have HX := Lib.hid hx
        have HY := Lib.hid hy
        have HB := Lib.hid hbel
        clear g1 g2 hx hy hbel
        by_cases hxy : x = y
        · subst hxy
          clear hkn
          go_wp2_with fail
          go_quiet (fail)
          go_wp2
          go_roundw
          case rel =>
            refine ⟨k + 1, by omega, by go_num, below_drewN HB.out _, fun j h1 h2 hj => ?_⟩
            by_cases e : j = k
            · subst e; rw [HX.out, HY.out]
            · exact HALL.out j h1 h2 (by omega)
          case measure => simp [intOf]; omega
        · have hq := str_ne hxy
          have HNE := Lib.hid hxy
          clear hxy
          go_wp2_with fail
          go_quiet (fail)
          go_wp2
          go_ret
          exact ⟨by rw [← HZ.out, sameS_no (k := k) (by rw [HN1.out]; exact hkn) (by rw [HN.out]; exact hkn) (by rw [HX.out, HY.out]; exact HNE.out)]; rfl, below_drewN HB.out _⟩
      · obtain rfl : k = n := by omega
        have hk2 : ¬ (k : Int) < (k : Int) := by omega
        clear hkn
        go_wp2
        go_ret
        exact ⟨by rw [← HZ.out, sameS_yes (HN1.out.trans HN.out.symm) fun j h1 h2 => HALL.out j h1 h2 (by rw [← HN1.out]; exact h1)]; rfl, hbel⟩
  · have hl2 : ((l1.length : Int) == (l2.length : Int)) = false := by simp; omega
    have HL := Lib.hid (sameS_len hlen)
    clear hlen
    go_enter Tryd.func20, Tryd.ntmps20
    go_wp2
    go_ret
    exact ⟨by rw [← HZ.out, HL.out]; rfl, Below.refl _ _⟩
end Go.Proofs.YtanlnoephhjhhaaDoor

/- Places of messages; what stands there. -/
import Derived.Test.YtnjabhjcnkbgpaaNetSend
import Derived.Laws.EntriesVeiled
set_option maxRecDepth 20000
set_option linter.unusedSimpArgs false
set_option linter.unusedVariables false
namespace Go.Proofs.Ytnjabhjcnkbgpaa
open Go.RowKit

/-- A slice of places, in a block of its own. -/
def PRow (w : World) (B : Nat) (v : Value) (ps : List Nat) : Prop := w.ownsRow B 3 1 v ps.length (ps.map fun i : Nat => Value.int .i64 (i : Int))
theorem PRow.slice {w : World} {B : Nat} {v : Value} {ps : List Nat} (h : PRow w B v ps) : ∃ a c, v = .slice a ps.length c := ownsRow_slice h
theorem PRow.nil (w : World) (B : Nat) : PRow w B (.slice none 0 0) [] := World.ownsRow_nil _ _ _ _
theorem PRow.later {w w' : World} {B : Nat} {v : Value} {ps : List Nat} (h : PRow w B v ps) (k : Below w.heap.size w w') : PRow w' B v ps := owns_later h k
theorem PRow.mono {w : World} {B B' : Nat} {v : Value} {ps : List Nat} (h : PRow w B v ps) (k : B' ≤ B) : PRow w B' v ps := World.ownsRow.mono h k
theorem PRow.block {w : World} {B : Nat} {a : Option Addr} {n c : Nat} {ps : List Nat} (h : PRow w B (.slice a n c) ps) (h0 : 0 < ps.length) : ∃ g, a = some ⟨g, 0, none⟩ ∧ n = ps.length ∧ B ≤ g ∧ g < w.heap.size ∧ ∀ j (hj : j < ps.length), w.cell? ⟨g, j, none⟩ = some (.int .i64 (ps[j] : Int)) := by
  rcases h.2 with ⟨hv, h2⟩ | ⟨g, cap, cur, hv, hg, hh, hn, hm, hs, ht⟩
  · omega
  · have h1 := h
    unfold PRow at h1
    rw [hv] at h1
    injection hv with e1 e2 e3
    subst e1 e2
    have e := World.ownsRow.cellAt h1
    refine ⟨g, rfl, rfl, hg, (Array.getElem?_eq_some_iff.1 hh).1, fun j hj => ?_⟩
    rw [e j (by omega)]; simp [hj]
/-- A place appended. -/
theorem wpList_place {w : World} {ops : Array Oper} {rest : List Oper} {o : Oper} {a : Act} {Q : Exit → Act → World → Prop} (hgd : o.guard = none) (sl x : Operand)
    (ho : o.op = .call { callee := .builtin .append, args := #[sl, x], argTypes := #[46, 46] })
    (B : Nat) (v : Value) (ps : List Nat) (y : Nat) (hs : a.eval sl = v) (hx : a.eval x = .slice (some ⟨w.heap.size, 0, none⟩) 1 1) (hown : PRow w B v ps) (hB : B ≤ w.heap.size) (hl : ps.length ≤ 1000000)
    (h : ∀ v' w', PRow w' B v' (ps ++ [y]) → w.grownBy w' v.ownBlock → (∀ k, v'.ownBlock = some k → v.ownBlock = some k ∨ w.heap.size ≤ k) → wpList Try.prog ops Q rest (a.put o.dst v') w') : wpList Try.prog ops Q (o :: rest) a (w.alloc (.cells #[.int .i64 (y : Int)] 3)) := by
  obtain ⟨i0, hi, hz0, hz1, hz2⟩ := info_parts infoI
  have hr := hown.later (bel_al w (.cells #[.int .i64 (y : Int)] 3))
  refine wpList_append_own_at (w := w.alloc (.cells #[.int .i64 (y : Int)] 3)) hgd sl x 46 ho B 3 i0 (.int .i64 0) 1 8 Try.underlying46 hi hz0 hz1 hz2 rfl (by decide) v ps.length _ hs hr ⟨w.heap.size, 0, none⟩ 1 1 [.int .i64 (y : Int)] hx rfl ?_ ?_ (by unfold maxLen; omega) (by omega) (by simp; omega) ?_
  · intro j u hj
    match j, hj with
    | 0, hj => simp at hj; subst hj; simp [Addr.add]
  · intro u hu; simp at hu; subst hu; rfl
  · intro v' w' h2 h3 _ h4
    refine h v' w' ?_ (World.grownBy.trans (World.grownBy_alloc w _ _) h3) fun k hk => ?_
    · unfold PRow
      rw [List.length_append, List.map_append]
      exact h2
    · rcases h4 with h4 | h4
      · rw [h4] at hk; exact Or.inl hk
      · rw [h4] at hk; injection hk with hk; right; simp at hk; omega
theorem grown_below {w w' : World} {B : Nat} {v : Value} (h : w.grownBy w' v.ownBlock) {e : TypeId} {sz n : Nat} {xs : List Value} {C : Nat} (hr : w.ownsRow B e sz v n xs) (hC : C ≤ B) (hw : C ≤ w.heap.size) : Below C w w' :=
  (Below.refl C w).grown h hw fun q hq => Nat.le_trans hC (hr.lt q hq).1
section
variable {w : World} {B b : Nat} {V : Value} {S : NS}
/-- A box with the network's pointer. -/
def BoxN (w : World) (c b : Nat) : Prop := w.cell? ⟨c, 0, none⟩ = some (.pointer (some ⟨b, 0, none⟩)) ∧ c < w.heap.size
def vopen (c : Nat) : Value := .func (.func 52) #[] #[.pointer (some ⟨c, 0, none⟩)]
theorem open1_is (c : Nat) (m : Ml) (W : World) (hc : W.cell? ⟨c, 0, none⟩ = some (.pointer (some ⟨b, 0, none⟩))) (h : NAt W B b V S) (hf : endB m.f = true) (ht : endB m.t = true) :
    Calls Try.prog 52 #[.agg #[.int .i64 m.n, .int .i64 m.f, .int .i64 m.t, .string m.s, .int .i64 m.a], .pointer (some ⟨c, 0, none⟩)] W fun e w' => e = .returned (.bool (openB S.par m)) ∧ Below W.heap.size W w' := by
  obtain ⟨n, f, t, s, a⟩ := m
  dsimp only at hf ht ⊢
  obtain ⟨i, rfl, hi⟩ := endB_yes hf
  obtain ⟨j, rfl, hj⟩ := endB_yes ht
  obtain ⟨p, hp⟩ : ∃ p, S.par (i * 64 + j) = p := ⟨_, rfl⟩
  have HZ := Lib.hid (show openB S.par ⟨n, i, j, s, a⟩ = !p by unfold openB; dsimp only; rw [spot_nat, hp])
  have d := h.cp (spot_lt hi hj)
  rw [hp, ← Nat.add_assoc] at d
  have h1 : (i : Int) < 64 := by omega
  have h2 : (j : Int) < 64 := by omega
  have hb := h.lt
  have hcl : c < W.heap.size := World.block_lt_of_cell? W _ hc
  have hb1 : ¬ b = W.heap.size := by omega
  have hb2 : ¬ W.heap.size = b := by omega
  have hc1 : ¬ c = W.heap.size := by omega
  have hc2 : ¬ W.heap.size = c := by omega
  have HB := Lib.hid (bel_al W (.cells #[.int .i64 n, .int .i64 i, .int .i64 j, .string s, .int .i64 a] 34))
  clear h hf ht hp
  go_enter Try.func52, Try.ntmps52
  go_wp2_with fail
  go_quiet (fail)
  go_wp2
  go_ret
  exact ⟨by rw [HZ.out]; rfl, below_drewN HB.out _⟩
set_option maxHeartbeats 4000000 in
theorem where_open (c x : Nat) (h : NAt w B b V S) (hc : w.cell? ⟨c, 0, none⟩ = some (.pointer (some ⟨b, 0, none⟩))) (hx : w.cell? ⟨x, 0, none⟩ = some (vopen c)) :
    Calls Try.prog 46 #[.pointer (some ⟨b, 0, none⟩), .slice (some ⟨x, 0, none⟩) 1 1] w fun e w' => ∃ v, e = .returned v ∧ PRow w' w.heap.size v (openP S) ∧ Below w.heap.size w w' := by
  obtain ⟨a, cp, rfl⟩ := h.row.slice
  have H := Lib.hid h
  obtain ⟨n, hn⟩ : ∃ n, S.mail.length = n := ⟨_, rfl⟩
  have HN := Lib.hid hn
  have hn2 := h.len
  have c0 := h.c0
  rw [hn] at c0 hn2
  have HX := Lib.hid hx
  have HC := Lib.hid hc
  clear h hn hx hc
  go_enter Try.func46, Try.ntmps46
  go_wp2
  go_step3
  go_wp2
  go_step3
  go_wp2
  go_loopw [5, 15] (fun u i wr => ∃ k : Nat, k ≤ n ∧ i = .int .i64 (k : Int) ∧ PRow wr w.heap.size u (whr (openB S.par) S.mail k) ∧ Below w.heap.size w wr) (fun _ i _ => n - (intOf i).toNat)
  case atStart => exact ⟨0, by omega, rfl, PRow.nil _ _, Below.refl _ _⟩
  case round =>
    obtain ⟨k, hk, rfl, hrow, hbel⟩ := hrel
    obtain ⟨w3, hw3⟩ : ∃ x, x = wr := ⟨_, rfl⟩
    subst hw3
    obtain ⟨pa, pc, rfl⟩ := hrow.slice
    obtain ⟨pn, hpn⟩ : ∃ pn, (whr (openB S.par) S.mail k).length = pn := ⟨_, rfl⟩
    have hpl := whr_len (openB S.par) S.mail k
    rw [hpn] at hrow hpl ⊢
    have HPN := Lib.hid hpn
    have HROW := Lib.hid hrow
    have HB := Lib.hid hbel
    have hsz := hbel.size
    clear hrow hbel hpn
    by_cases hkn : k < n
    · have hki : (k : Int) < (n : Int) := by omega
      have hkl : k < S.mail.length := by rw [HN.out]; exact hkn
      have hw1 : IntKind.i64.wrap ((k : Int) + 1) = (k : Int) + 1 := by rw [IntKind.wrap_i64]; omega
      obtain ⟨m, hm⟩ : ∃ m, S.mail[k] = m := ⟨_, rfl⟩
      have H3 := Lib.hid (H.out.later HB.out)
      obtain ⟨g, rfl, -, -, hgl, -, hat⟩ := H3.out.row.block (by rw [HN.out]; omega)
      obtain ⟨m0, m1, m2, m3, m4⟩ := hat k hkl
      rw [hm] at m0 m1 m2 m3 m4
      have hen := H.out.ends m (by rw [← hm]; exact List.getElem_mem hkl)
      have x3 := (HB.out.cell (p := ⟨x, 0, none⟩) (World.block_lt_of_cell? w _ HX.out)).trans HX.out
      have hxl : x < w.heap.size := World.block_lt_of_cell? w _ HX.out
      have hx1 : ¬ x = w3.heap.size := by omega
      have hx2 : ¬ w3.heap.size = x := by omega
      unfold vopen at x3
      have cc := (HB.out.cell (p := ⟨c, 0, none⟩) (World.block_lt_of_cell? w _ HC.out)).trans HC.out
      obtain ⟨p, hp⟩ : ∃ p, openB S.par m = p := ⟨_, rfl⟩
      have ba := bel_al w3 (.cells #[.int .i64 m.n, .int .i64 m.f, .int .i64 m.t, .string m.s, .int .i64 m.a] 34)
      have x4 := (ba.cell (p := ⟨x, 0, none⟩) (by show x < _; omega)).trans x3
      have ko := open1_is c m _ ((ba.cell (p := ⟨c, 0, none⟩) (World.block_lt_of_cell? w3 _ cc)).trans cc) (H3.out.later ba) hen.1 hen.2.1
      rw [hp] at ko
      have HP := Lib.hid hp
      have HBA := Lib.hid (HB.out.trans (ba.mono hsz))
      have HKL := Lib.hid hkl
      clear hat hen cc hp ba hkn
      cases p with
      | true =>
        have HSTEP := Lib.hid (show whr (openB S.par) S.mail (k + 1) = whr (openB S.par) S.mail k ++ [k] by rw [whr_step hkl, hm, HP.out]; rfl)
        clear hm hkl
        go_wp2
        refine wp_loop_rounds 2 ?_
        rw [rounds_succ]
        go_wp2_with (go_at_call 52; (with_reducible refine ko.mono ?_); rintro e w4 ⟨rfl, hB4⟩; (have HB4 := Lib.hid (HBA.out.trans (hB4.mono HBA.out.size))); (have HR4 := Lib.hid ((HROW.out.later (bel_al w3 _)).later hB4)); clear hB4 ko x3 x4 m0 m1 m2 m3 m4)
        rw [rounds_succ]
        go_wp2_with (at_builtin; refine wpList_place (w := w4) rfl _ _ rfl w.heap.size (.slice pa pn pc) _ k rfl rfl HR4.out HB4.out.size (by rw [HPN.out]; omega) ?_; intro v5 w5 hR5 hg5 hs5; (have HB5 := Lib.hid (HB4.out.trans (grown_below hg5 HR4.out (Nat.le_refl _) HB4.out.size))); (have HR5 := Lib.hid hR5); clear hg5 hs5 hR5)
        go_roundw
        case rel => exact ⟨k + 1, by omega, by go_num, by rw [HSTEP.out]; exact HR5.out, HB5.out⟩
        case measure => simp [intOf]; omega
      | false =>
        have HSTEP := Lib.hid (show whr (openB S.par) S.mail (k + 1) = whr (openB S.par) S.mail k by rw [whr_step hkl, hm, HP.out]; rfl)
        clear hm hkl
        go_wp2
        refine wp_loop_rounds 2 ?_
        rw [rounds_succ]
        go_wp2_with (go_at_call 52; (with_reducible refine ko.mono ?_); rintro e w4 ⟨rfl, hB4⟩; (have HB4 := Lib.hid (HBA.out.trans (hB4.mono HBA.out.size))); (have HR4 := Lib.hid ((HROW.out.later (bel_al w3 _)).later hB4)); clear hB4 ko x3 x4 m0 m1 m2 m3 m4)
        go_roundw
        case rel => exact ⟨k + 1, by omega, by go_num, by rw [HSTEP.out]; exact HR4.out, HB4.out⟩
        case measure => simp [intOf]; omega
    · have hki : ¬ (k : Int) < (n : Int) := by omega
      obtain rfl : k = n := by omega
      have HO := Lib.hid (show openP S = whr (openB S.par) S.mail k by unfold openP; rw [HN.out])
      clear hkn
      go_wp2
      try rw [Exit.noGoto_ret]
      go_ret
      exact ⟨_, rfl, by rw [HO.out]; exact HROW.out, HB.out⟩
end
end Go.Proofs.Ytnjabhjcnkbgpaa

/- The document's Points. -/
import Derived.Test.YtmmkbedheeeecaaRingRef
import Derived.Deep.RegionHeld
set_option maxRecDepth 20000
set_option linter.unusedSimpArgs false
namespace Go.Proofs.Ytmmkbedheeeecaa
open Go.RowKit

theorem join2 {P : Prop} {F : Nat → Nat → Act} {T : Nat → Nat → World → Prop} {K : Act → World → Prop} (hw : (∀ d e W, T d e W → K (F d e) W) → P) (hr : ∀ d e W, T d e W → K (F d e) W) : P := hw hr
theorem szQ (w : World) : (sizeOf (Try.prog.elem 33)).run Try.prog w = .ok 2 w := by kernel_rfl
theorem Pn.cut {w : World} {a : Option Addr} {n cap : Nat} {l : List Pt} (h : Pn w (.slice a n cap) l) (k : Nat) (hk : k ≤ l.length) : Pn w (.slice (if cap = k then a else a.map (·.add (k * 2))) (l.length - k) (cap - k)) (l.drop k) := by
  obtain ⟨a', cap', h1, h2, h4⟩ := h
  injection h1 with e1 e2 e3
  subst e1 e2 e3
  refine ⟨_, _, by rw [List.length_drop], by rw [List.length_drop]; omega, ?_⟩
  by_cases hkl : k = l.length
  · exact Or.inl (List.drop_eq_nil_of_le (by omega))
  · rw [if_neg (by omega)]
    rcases h4 with rfl | ⟨b, off, rfl, hb, hc⟩
    · simp at hk hkl; omega
    · refine Or.inr ⟨b, off + k * 2, (by show some (Addr.add _ _) = _; rw [Addr.add_lit]), hb, fun j hj => ?_⟩
      rw [List.length_drop] at hj
      have := hc (k + j) (by omega)
      rw [List.getElem_drop, show off + k * 2 + j * 2 = off + (k + j) * 2 by omega]
      exact this
theorem Pn.head {w : World} {a : Option Addr} {n cap : Nat} {l : List Pt} (h : Pn w (.slice a n cap) l) (k : Nat) (hk : k ≤ l.length) : Pn w (.slice (if cap = 0 then a else a.map (·.add (0 * 2))) (k - 0) (cap - 0)) (l.take k) := by
  obtain ⟨a', cap', h1, h2, h4⟩ := h
  injection h1 with e1 e2 e3
  subst e1 e2 e3
  have hl : (l.take k).length = k - 0 := by rw [List.length_take]; omega
  refine ⟨_, _, by rw [hl], by omega, ?_⟩
  by_cases hk0 : k = 0
  · exact Or.inl (by subst hk0; rfl)
  · rw [if_neg (by omega)]
    rcases h4 with rfl | ⟨b, off, rfl, hb, hc⟩
    · simp at hk; omega
    · refine Or.inr ⟨b, off, by simp [Addr.add], hb, fun j hj => ?_⟩
      rw [hl] at hj
      rw [List.getElem_take]
      exact hc j (by omega)
theorem cutP_head {w : World} {a : Option Addr} {n cap : Nat} {l : List Pt} (h : Pn w (.slice a n cap) l) (k : Nat) (hk : k ≤ l.length) : ∃ p c, (∀ W, (Instr.slice 33 (.slice a n cap) none (some (.int .i64 (k : Int))) none).run Try.prog W = .ok (.slice p k c) W) ∧ Pn w (.slice p k c) (l.take k) := by
  have hc : n ≤ cap ∧ n = l.length := by
    obtain ⟨a', cap', h1, h2, _⟩ := h
    injection h1 with e1 e2 e3
    omega
  refine ⟨_, _, fun W => ?_, h.head k hk⟩
  rw [run_slice_h (P := Try.prog) W 33 a n cap Try.underlying33 .i64 (k : Int) (by omega) (by omega), szQ, Int.toNat_natCast]; rfl
theorem cutP_tail {w : World} {a : Option Addr} {n cap : Nat} {l : List Pt} (h : Pn w (.slice a n cap) l) (k : Nat) (hk : k ≤ l.length) : ∃ p m c, (∀ W, (Instr.slice 33 (.slice a n cap) (some (.int .i64 (k : Int))) none none).run Try.prog W = .ok (.slice p m c) W) ∧ Pn w (.slice p m c) (l.drop k) := by
  have hc : n ≤ cap ∧ n = l.length := by
    obtain ⟨a', cap', h1, h2, _⟩ := h
    injection h1 with e1 e2 e3
    omega
  refine ⟨_, _, _, fun W => ?_, h.cut k hk⟩
  rw [run_slice_l (P := Try.prog) W 33 a n cap Try.underlying33 .i64 (k : Int) (by omega) (by omega), szQ, Int.toNat_natCast, hc.2]; rfl
/-- Points appended to a slice of the call's own. -/
theorem wpList_pts {w : World} {ops : Array Oper} {rest : List Oper} {o : Oper} {a : Act} {Q : Exit → Act → World → Prop} (hgd : o.guard = none) (sl x : Operand)
    (ho : o.op = .call { callee := .builtin .append, args := #[sl, x], argTypes := #[33, 33] })
    (B : Nat) (v u : Value) (xs ys : List Pt) (hs : a.eval sl = v) (hx : a.eval x = u) (hown : PRow w B 38 v xs) (hnew : Pn w u ys) (hB : B ≤ w.heap.size) (hl : xs.length + ys.length ≤ 1000000)
    (h : ∀ v' w', PRow w' B 38 v' (xs ++ ys) → Below B w w' → Grew w w' v v' → wpList Try.prog ops Q rest (a.put o.dst v') w') : wpList Try.prog ops Q (o :: rest) a w := by
  obtain ⟨i0, hi, hz0, hz1, hz2⟩ := info_parts infoQ
  obtain ⟨a2, c2, e2, hc2, h4⟩ := hnew
  by_cases h0 : ys = []
  · have hrun : (Builtin.append_ #[33, 33] o.type #[v, u]).run Try.prog w = .ok v w := by
      obtain ⟨s1, s2, s3⟩ := hown.slice
      have hcap : xs.length ≤ s2 := by
        rcases hown.2 with ⟨e, hn⟩ | ⟨g, cap, cur, e, _, _, hn, _⟩
        · omega
        · rw [s3] at e; injection e with _ _ e3; omega
      subst s3 e2
      refine run_append_nothing w 33 33 o.type 38 i0 Try.underlying33 hi s1 xs.length s2 hcap _ ?_
      rw [h0]
      cases a2 with
      | none => exact Src.ofNil w Try.underlying33 c2
      | some ad => exact Src.ofSlice w Try.underlying33 ad 0 c2 [] (by simp) (fun j u hu => by simp at hu) (fun u hu => by simp at hu)
    refine wpList_plain hgd fun K hK => ?_
    unfold Oper.wp execOp
    simp only [ho, resolve, invoke, builtin, Sem.run_bind, Sem.run_pure, Result.andThen_ok, List.map_toArray, List.map_cons, List.map_nil, hs, hx, hrun]
    exact hK _ _ (h v w (by rw [h0, List.append_nil]; exact hown) (Below.refl _ _) ⟨World.grownBy.refl _ _, Or.inl rfl⟩)
  · rcases h4 with h4 | ⟨b, off, rfl, hb, hc⟩
    · exact absurd h4 h0
    · refine wpList_append_own_at w hgd sl x 33 ho B 38 i0 (.agg #[.int .u64 0, .int .i64 0]) 2 16 Try.underlying33 hi hz0 hz1 hz2 rfl (by decide) v xs.length (xs.flatMap cellsP) hs hown ⟨b, off, none⟩ ys.length c2 (ys.flatMap cellsP) (hx.trans e2) (flatP_len ys) ?_ (flatP_one ys) (by unfold maxLen; omega) (by omega) hB ?_
      · intro j u hu
        rw [Addr.add_lit]
        have hj : j < ys.length * 2 := by
          rw [← flatP_len]; exact (List.getElem?_eq_some_iff.1 hu).1
        obtain ⟨a1, a3⟩ := flatP_at ys (j / 2) (by omega)
        obtain ⟨b1, b3⟩ := hc (j / 2) (by omega)
        by_cases hr : j % 2 = 0
        · have ej : j = j / 2 * 2 := by omega
          rw [ej] at hu ⊢
          rw [a1] at hu
          exact b1.trans hu
        · have ej : j = j / 2 * 2 + 1 := by omega
          rw [ej] at hu ⊢
          rw [a3] at hu
          exact b3.trans hu
      · intro v' w' h2 h3 _ h5
        have G : Grew w w' v v' := ⟨h3, by
          rcases h5 with h5 | h5
          · exact Or.inl h5
          · exact Or.inr ⟨_, h5, Nat.le_refl _⟩⟩
        exact h v' w' (by unfold PRow; rw [List.length_append, List.flatMap_append]; exact h2) (G.below hown (Nat.le_refl _) hB) G
theorem lit_pn (w : World) (p : Pt) (T : TypeId) : Pn (w.alloc (.cells #[.int .u64 p.a, .int .i64 p.n] T)) (.slice (some ⟨w.heap.size, 0, none⟩) 1 1) [p] :=
  ⟨_, _, rfl, Nat.le_refl _, Or.inr ⟨w.heap.size, 0, rfl, by simp, fun j hj => by
    match j, hj with
    | 0, _ => exact ⟨by simp, by simp⟩⟩⟩
theorem key_at (W : World) (b m k : Nat) (h0 : W.cell? ⟨b, 0, none⟩ = some (.int .u8 110)) (h1 : W.cell? ⟨b, 1, none⟩ = some (.int .u8 (m : Int))) (h2 : W.cell? ⟨b, 2, none⟩ = some (.int .u8 (k : Int))) (hm : m ≤ 255) (hk : k ≤ 255) :
    (convert 66 9 (.slice (some ⟨b, 0, none⟩) 3 3)).run Try.prog W = .ok (.string ⟨(keyL (m : Int) k).toArray⟩) W := by
  have e1 : (UInt8.ofNat m).toNat = m := by rw [UInt8.toNat_ofNat']; exact Nat.mod_eq_of_lt (by omega)
  have e2 : (UInt8.ofNat k).toNat = k := by rw [UInt8.toNat_ofNat']; exact Nat.mod_eq_of_lt (by omega)
  refine run_convert_bytes_back (P := Try.prog) _ 66 9 5 ⟨b, 0, none⟩ 3 (keyL (m : Int) k) Try.underlying66 Try.underlying5 Try.underlying9 fun j hj => ?_
  match j, hj with
  | 0, _ => simpa [keyL, Addr.add] using h0
  | 1, _ => simpa [keyL, Addr.add, e1] using h1
  | 2, _ => simpa [keyL, Addr.add, e2] using h2
theorem ptsL_at : ∀ (N : List Int) (i k : Nat) (hi : i < N.length), k < 8 → (ptsL N)[i * 8 + k]? = some (ptOf N[i] k)
  | [], i, k, hi, _ => by simp at hi
  | n :: t, 0, k, _, hk => by
    rw [ptsL_cons, List.getElem?_append_left (by rw [ptsOf_len]; omega)]
    simp [ptsOf, hk]
  | n :: t, i + 1, k, hi, hk => by
    rw [ptsL_cons, List.getElem?_append_right (by rw [ptsOf_len]; omega), ptsOf_len, show (i + 1) * 8 + k - 8 = i * 8 + k by omega]
    exact ptsL_at t i k (by simpa using hi) hk
theorem take_pt {N : List Int} {i k : Nat} (hi : i < N.length) (hk : k < 8) : (ptsL N).take (i * 8 + k + 1) = (ptsL N).take (i * 8 + k) ++ [ptOf N[i] k] := by
  rw [List.take_add_one, ptsL_at N i k hi hk]; rfl
/-- What the document has put in order, of the first t points. -/
structure OR (w wr : World) (v : Value) (N : List Int) (O : List Pt) (t : Nat) : Prop where
  row : PRow wr w.heap.size 38 v O
  bel : Below w.heap.size w wr
  pw : O.Pairwise leP
  perm : O.Perm ((ptsL N).take t)
theorem OR.len {w wr : World} {v : Value} {N : List Int} {O : List Pt} {t : Nat} (h : OR w wr v N O t) (hN : N.length ≤ 16) : O.length ≤ 128 := by
  rw [h.perm.length_eq, List.length_take, ptsL_len]; omega
/-- A new point in its place. -/
structure HereP (e : Nat) (p : Pt) (wd W : World) : Prop where
  c0 : W.cell? ⟨e, 0, none⟩ = some (.int .u64 p.a)
  c1 : W.cell? ⟨e, 1, none⟩ = some (.int .i64 p.n)
  bel : Below wd.heap.size wd W
theorem HereP.later {e : Nat} {p : Pt} {wd W W' : World} (h : HereP e p wd W) (k : Below W.heap.size W W') : HereP e p wd W' := by
  have he := World.block_lt_of_cell? W _ h.c0
  exact ⟨(k.cell (p := ⟨e, 0, none⟩) he).trans h.c0, (k.cell (p := ⟨e, 1, none⟩) he).trans h.c1, bel_next h.bel k⟩
theorem OR.later {w wr w' : World} {v : Value} {N : List Int} {O : List Pt} {t : Nat} (h : OR w wr v N O t) (k : Below wr.heap.size wr w') : OR w w' v N O t := ⟨h.row.later k, bel_next h.bel k, h.pw, h.perm⟩
theorem OR.put {w wr w' : World} {v v' : Value} {N : List Int} {O : List Pt} {t q : Nat} {p : Pt} (h : OR w wr v N O t) (hp : (ptsL N).take (t + 1) = (ptsL N).take t ++ [p]) (hq : q ≤ O.length) (h1 : ∀ j (hj : j < O.length), j < q → leP O[j] p) (h2 : ∀ hj : q < O.length, ¬ leP O[q] p)
    (hr : PRow w' wr.heap.size 38 v' ((O.take q ++ [p]) ++ O.drop q)) (hb : Below wr.heap.size wr w') : OR w w' v' N ((O.take q ++ [p]) ++ O.drop q) (t + 1) :=
  ⟨Joins.ownsRow_le hr h.bel.size, bel_next h.bel hb, ins_pair h.pw p q hq h1 h2, by rw [hp]; exact (ins_perm O p q).trans (h.perm.append_right _)⟩
def PDone (L : List Pt) (w : World) (e : Ending) (w' : World) : Prop := ∃ v, e = .returned v ∧ PRow w' w.heap.size 38 v L ∧ Below w.heap.size w w'
set_option maxHeartbeats 4000000 in
theorem rpoints_is (v : Value) (l : List Int) (w : World) (h : Ns w v l) : Calls Try.prog 14 #[v] w (PDone (srt (ptsL (nodesL l))) w) := by
  obtain ⟨a, cap, rfl⟩ := h.slice
  have kn := rnodes_is _ l w h
  have hok := nodesL_ok l
  generalize nodesL l = N at *
  clear h
  generalize l.length = len at *
  have kh := fun s w h => rhash_is s w h
  have HOK := Lib.hid hok
  clear hok
  go_enter Try.func14, Try.ntmps14
  go_wp2_with (go_at_call 20; (with_reducible refine kn.mono ?_); rintro e w1 ⟨vn, rfl, hr, hB⟩; (have HN := Lib.hid hr); (have HB := Lib.hid hB); clear hr hB kn)
  obtain ⟨an, cn, rfl⟩ := HN.out.slice
  obtain ⟨n, hn⟩ : ∃ n, N.length = n := ⟨_, rfl⟩
  have hn16 : n ≤ 16 := by rw [← hn]; exact HOK.out.1
  have HNL := Lib.hid hn
  rw [hn] at HN ⊢
  clear hn
  go_loopg [3, 5] n (fun g out i wr => ∃ k : Nat, k + g = n ∧ i = .int .i64 (k : Int) ∧ ∃ O, OR w1 wr out N O (k * 8))
  case atStart => exact ⟨0, by omega, rfl, [], ⟨PRow.nil _ _ _, Below.refl _ _, List.Pairwise.nil, by simp⟩⟩
  case round =>
    obtain ⟨i, hi, rfl, O1, hO⟩ := hrel
    obtain ⟨w2, hw2⟩ : ∃ w2, w2 = wr := ⟨_, rfl⟩
    subst hw2
    obtain ⟨a3, d3, rfl⟩ := hO.row.slice
    obtain ⟨m1, hm1⟩ : ∃ m, O1.length = m := ⟨_, rfl⟩
    rw [hm1]
    have HO := Lib.hid hO
    have HM1 := Lib.hid hm1
    clear hO hm1
    cases gk with
    | zero =>
      have hlt : ¬ (i : Int) < (n : Int) := by omega
      go_wp2
      go_ret
      have hp := HO.out.perm
      rw [List.take_of_length_le (by rw [ptsL_len, HNL.out]; omega)] at hp
      refine ⟨_, rfl, ?_, bel_next HB.out HO.out.bel⟩
      rw [← srt_uniq hp HO.out.pw, ← HM1.out]
      exact Joins.ownsRow_le HO.out.row HB.out.size
    | succ g =>
      have hlt : (i : Int) < (n : Int) := by omega
      have hiN : i < N.length := by rw [HNL.out]; omega
      obtain ⟨x, hx⟩ : ∃ x, N[i] = x := ⟨_, rfl⟩
      have HX := Lib.hid hx
      have hx15 : 0 ≤ x ∧ x ≤ 15 := by rw [← hx]; exact HOK.out.2 _ (List.getElem_mem _)
      obtain ⟨xn, rfl⟩ := Int.eq_ofNat_of_zero_le hx15.1
      have hxn : xn ≤ 15 := by omega
      clear hx hx15
      go_wp2
      go_loopg [3, 6] 8 (fun g2 out kk wy => ∃ k : Nat, k + g2 = 8 ∧ kk = .int .i64 (k : Int) ∧ ∃ O, OR w1 wy out N O (i * 8 + k))
      case atStart => exact ⟨0, by omega, rfl, O1, by have := HO.out; rwa [← HM1.out]⟩
      case round =>
        clear HO HM1
        obtain ⟨k, hk, rfl, O, hO⟩ := hrel
        obtain ⟨w3, hw3⟩ : ∃ w3, w3 = wr := ⟨_, rfl⟩
        subst hw3
        obtain ⟨a4, d4, rfl⟩ := hO.row.slice
        obtain ⟨m, hm⟩ : ∃ m, O.length = m := ⟨_, rfl⟩
        have HO := Lib.hid hO
        have HM := Lib.hid hm
        have hm128 : m ≤ 128 := by rw [← hm]; exact hO.len HOK.out.1
        rw [hm]
        cases gk with
        | zero =>
          obtain rfl : k = 8 := by omega
          clear hO hm
          go_wp2
          go_roundg g
          case measure => omega
          case rel => exact ⟨i + 1, by omega, by go_num, O, by have := HO.out; rw [HM.out.symm, show (i + 1) * 8 = i * 8 + 8 by omega]; exact this⟩
        | succ g2 =>
          have hk8 : (k : Int) < 8 := by omega
          have hk8n : k < 8 := by omega
          obtain ⟨p, hp⟩ : ∃ p, ptOf (xn : Int) k = p := ⟨_, rfl⟩
          have HPT := Lib.hid (take_pt (N := N) (i := i) (k := k) hiN hk8n)
          rw [HX.out, hp] at HPT
          obtain ⟨s, hs⟩ : ∃ s : ByteArray, (⟨(keyL (xn : Int) k).toArray⟩ : ByteArray) = s := ⟨_, rfl⟩
          have hsz : s.size ≤ maxLen := by subst hs; show 3 ≤ maxLen; unfold maxLen; omega
          obtain ⟨z, hz⟩ : ∃ z, hashI s = z := ⟨_, rfl⟩
          have hpz : p = ⟨z, (xn : Int)⟩ := by rw [← hp, ← hz, ← hs]; unfold ptOf hashI; simp
          have kq := fun W => kh s W hsz
          rw [hz] at kq
          have wm : IntKind.u8.wrap (xn : Int) = (xn : Int) := by rw [IntKind.wrap_u8]; omega
          have wk : IntKind.u8.wrap (k : Int) = (k : Int) := by rw [IntKind.wrap_u8]; omega
          have hNw : IRow w3 w.heap.size (.slice an n cn) N := HN.out.later HO.out.bel
          obtain ⟨gn, rfl, -, hgn, hcn⟩ := hNw.cell (by omega)
          have ci := hcn i hiN
          rw [HX.out] at ci
          have CI := Lib.hid ci
          have KC := fun W b h0 h1 h2 => key_at W b xn k h0 h1 h2 (by omega) (by omega)
          rw [hs] at KC
          clear hO hm hs hz hp hsz hcn hNw
          go_upto_region 9 with fail
          apply join2 (T := fun e _ W => HereP e p w3 W)
          · intro hrest
            refine wp_region_held_drew (S := Below w3.heap.size w3) (by kernel_rfl) (Below.refl _ _).drew (fun hHeld => ?_)
            refine wpAnyH_take (i := 0) (oi := ?o1o) (v := ?o1v) ?o1h (by kernel_rfl) (by kernel_rfl) (by kernel_rfl) ?o1q ?o1y hHeld ?o1r
            case o1h => (simp only [List.getElem?_toArray, List.getElem?_cons_zero]; rfl)
            case o1q => exact fun _ _ _ h => h
            case o1y => (refine Or.inl ⟨by first | kernel_rfl | rfl, ?_⟩; intro w hSw; (try dsimp only at hSw); have cc := (hSw.cell (p := ⟨gn, i, none⟩) hgn).trans CI.out; go_simp <;> (try with_reducible rfl))
            try simp only [Act.put, List.setIfInBounds_toArray, List.set_cons_zero, List.set_cons_succ]
            refine wpAnyH_take (i := 1) (oi := ?o2o) (v := ?o2v) ?o2h (by kernel_rfl) (by kernel_rfl) (by kernel_rfl) ?o2q ?o2y hHeld ?o2r
            case o2h => (simp only [List.getElem?_toArray, List.getElem?_cons_succ, List.getElem?_cons_zero]; rfl)
            case o2q => exact fun _ _ _ h => h
            case o2y => (refine Or.inl ⟨by first | kernel_rfl | rfl, ?_⟩; intro w hSw; (try dsimp only at hSw); have cc := (hSw.cell (p := ⟨gn, i, none⟩) hgn).trans CI.out; go_simp <;> (try with_reducible rfl))
            try simp only [Act.put, List.setIfInBounds_toArray, List.set_cons_zero, List.set_cons_succ]
            refine wpAnyH_take (i := 2) (oi := ?o3o) (v := ?o3v) ?o3h (by kernel_rfl) (by kernel_rfl) (by kernel_rfl) ?o3q ?o3y hHeld ?o3r
            case o3h => (simp only [List.getElem?_toArray, List.getElem?_cons_succ, List.getElem?_cons_zero]; rfl)
            case o3q => exact fun _ _ _ h => h
            case o3y => (refine Or.inl ⟨by first | kernel_rfl | rfl, ?_⟩; intro w hSw; (try dsimp only at hSw); have cc := (hSw.cell (p := ⟨gn, i, none⟩) hgn).trans CI.out; go_simp <;> (try with_reducible rfl))
            try simp only [Act.put, List.setIfInBounds_toArray, List.set_cons_zero, List.set_cons_succ]
            refine wpAnyH_take (i := 3) (oi := ?o4o) (v := ?o4v) ?o4h (by kernel_rfl) (by kernel_rfl) (by kernel_rfl) ?o4q ?o4y hHeld ?o4r
            case o4h => (simp only [List.getElem?_toArray, List.getElem?_cons_succ, List.getElem?_cons_zero]; rfl)
            case o4q => exact fun _ _ _ h => h
            case o4y => (refine Or.inl ⟨by first | kernel_rfl | rfl, ?_⟩; intro w hSw; (try dsimp only at hSw); have cc := (hSw.cell (p := ⟨gn, i, none⟩) hgn).trans CI.out; go_simp <;> (try with_reducible rfl))
            try simp only [Act.put, List.setIfInBounds_toArray, List.set_cons_zero, List.set_cons_succ]
            refine wpAnyH_take (i := 4) (oi := ?o5o) (v := ?o5v) ?o5h (by kernel_rfl) (by kernel_rfl) (by kernel_rfl) ?o5q ?o5y hHeld ?o5r
            case o5h => (simp only [List.getElem?_toArray, List.getElem?_cons_succ, List.getElem?_cons_zero]; rfl)
            case o5q => exact fun _ _ _ h => h
            case o5y => (refine Or.inl ⟨by first | kernel_rfl | rfl, ?_⟩; intro w hSw; (try dsimp only at hSw); have cc := (hSw.cell (p := ⟨gn, i, none⟩) hgn).trans CI.out; go_simp <;> (try with_reducible rfl))
            try simp only [Act.put, List.setIfInBounds_toArray, List.set_cons_zero, List.set_cons_succ]
            refine wpAnyH_take (i := 5) (oi := ?o6o) (v := ?o6v) ?o6h (by kernel_rfl) (by kernel_rfl) (by kernel_rfl) ?o6q ?o6y hHeld ?o6r
            case o6h => (simp only [List.getElem?_toArray, List.getElem?_cons_succ, List.getElem?_cons_zero]; rfl)
            case o6q => exact fun _ _ _ h => h
            case o6y => (refine Or.inl ⟨by first | kernel_rfl | rfl, ?_⟩; intro w hSw; (try dsimp only at hSw); have cc := (hSw.cell (p := ⟨gn, i, none⟩) hgn).trans CI.out; go_simp <;> (try with_reducible rfl))
            try simp only [Act.put, List.setIfInBounds_toArray, List.set_cons_zero, List.set_cons_succ]
            refine wpAnyH_take (i := 6) (oi := ?o7o) (v := ?o7v) ?o7h (by kernel_rfl) (by kernel_rfl) (by kernel_rfl) ?o7q ?o7y hHeld ?o7r
            case o7h => (simp only [List.getElem?_toArray, List.getElem?_cons_succ, List.getElem?_cons_zero]; rfl)
            case o7q => exact fun _ _ _ h => h
            case o7y => (refine Or.inl ⟨by first | kernel_rfl | rfl, ?_⟩; intro w hSw; (try dsimp only at hSw); have cc := (hSw.cell (p := ⟨gn, i, none⟩) hgn).trans CI.out; go_simp <;> (try with_reducible rfl))
            try simp only [Act.put, List.setIfInBounds_toArray, List.set_cons_zero, List.set_cons_succ]
            refine wpAnyH_take (i := 10) (oi := ?o8o) (v := ?o8v) ?o8h (by kernel_rfl) (by kernel_rfl) (by kernel_rfl) ?o8q ?o8y hHeld ?o8r
            case o8h => (simp only [List.getElem?_toArray, List.getElem?_cons_succ, List.getElem?_cons_zero]; rfl)
            case o8q => exact fun _ _ _ h => h
            case o8y => (refine Or.inl ⟨by first | kernel_rfl | rfl, ?_⟩; intro w hSw; (try dsimp only at hSw); have cc := (hSw.cell (p := ⟨gn, i, none⟩) hgn).trans CI.out; go_simp <;> (try with_reducible rfl))
            try simp only [Act.put, List.setIfInBounds_toArray, List.set_cons_zero, List.set_cons_succ]
            refine wpAnyH_take (i := 11) (oi := ?o9o) (v := ?o9v) ?o9h (by kernel_rfl) (by kernel_rfl) (by kernel_rfl) ?o9q ?o9y hHeld ?o9r
            case o9h => (simp only [List.getElem?_toArray, List.getElem?_cons_succ, List.getElem?_cons_zero]; rfl)
            case o9q => exact fun _ _ _ h => h
            case o9y => (refine Or.inl ⟨by first | kernel_rfl | rfl, ?_⟩; intro w hSw; (try dsimp only at hSw); have cc := (hSw.cell (p := ⟨gn, i, none⟩) hgn).trans CI.out; go_simp <;> (try with_reducible rfl))
            try simp only [Act.put, List.setIfInBounds_toArray, List.set_cons_zero, List.set_cons_succ]
            refine wpAnyH_take (i := 12) (oi := ?o10o) (v := ?o10v) ?o10h (by kernel_rfl) (by kernel_rfl) (by kernel_rfl) ?o10q ?o10y hHeld ?o10r
            case o10h => (simp only [List.getElem?_toArray, List.getElem?_cons_succ, List.getElem?_cons_zero]; rfl)
            case o10q => exact fun _ _ _ h => h
            case o10y => (refine Or.inl ⟨by first | kernel_rfl | rfl, ?_⟩; intro w hSw; (try dsimp only at hSw); have cc := (hSw.cell (p := ⟨gn, i, none⟩) hgn).trans CI.out; go_simp <;> (try with_reducible rfl))
            try simp only [Act.put, List.setIfInBounds_toArray, List.set_cons_zero, List.set_cons_succ]
            refine wpAnyH_take (i := 13) (oi := ?o11o) (v := ?o11v) ?o11h (by kernel_rfl) (by kernel_rfl) (by kernel_rfl) ?o11q ?o11y hHeld ?o11r
            case o11h => (simp only [List.getElem?_toArray, List.getElem?_cons_succ, List.getElem?_cons_zero]; rfl)
            case o11q => exact fun _ _ _ h => h
            case o11y => (refine Or.inl ⟨by first | kernel_rfl | rfl, ?_⟩; intro w hSw; (try dsimp only at hSw); have cc := (hSw.cell (p := ⟨gn, i, none⟩) hgn).trans CI.out; go_simp <;> (try with_reducible rfl))
            try simp only [Act.put, List.setIfInBounds_toArray, List.set_cons_zero, List.set_cons_succ]
            refine wpAnyH_ready (rs := [7, 15]) (by kernel_rfl) (by simp) ?_
            refine (AllReadyH.cons rfl (fun K hK => ?_) (AllReadyH.cons rfl (fun K hK => ?_) AllReadyH.nil))
            ·
              go_simp
              skip
              refine hK.out _ _ (hHeld.alloc hHeld.size _) (fun hHeld => ?_)
              clear hK K
              try simp only [Act.put, List.setIfInBounds_toArray, List.set_cons_zero, List.set_cons_succ]
              refine wpAnyH_ready (rs := [8, 15]) (by kernel_rfl) (by simp) ?_
              refine (AllReadyH.cons rfl (fun K hK => ?_) (AllReadyH.cons rfl (fun K hK => ?_) AllReadyH.nil))
              ·
                go_simp
                skip
                refine hK.out _ _ (hHeld) (fun hHeld => ?_)
                clear hK K
                try simp only [Act.put, List.setIfInBounds_toArray, List.set_cons_zero, List.set_cons_succ]
                refine wpAnyH_ready (rs := [9, 15]) (by kernel_rfl) (by simp) ?_
                refine (AllReadyH.cons rfl (fun K hK => ?_) (AllReadyH.cons rfl (fun K hK => ?_) AllReadyH.nil))
                ·
                  go_simp
                  ((with_reducible refine (kq _).mono ?_); rintro e w5 ⟨rfl, rfl⟩)
                  refine hK.out _ _ (hHeld) (fun hHeld => ?_)
                  clear hK K
                  try simp only [Act.put, List.setIfInBounds_toArray, List.set_cons_zero, List.set_cons_succ]
                  refine wpAnyH_take (i := 14) (oi := ?o12o) (v := ?o12v) ?o12h (by kernel_rfl) (by kernel_rfl) (by kernel_rfl) ?o12q ?o12y hHeld ?o12r
                  case o12h => (simp only [List.getElem?_toArray, List.getElem?_cons_succ, List.getElem?_cons_zero]; rfl)
                  case o12q => exact fun _ _ _ h => h
                  case o12y => (refine Or.inl ⟨by first | kernel_rfl | rfl, ?_⟩; intro w hSw; (try dsimp only at hSw); have cc := (hSw.cell (p := ⟨gn, i, none⟩) hgn).trans CI.out; go_simp <;> (try with_reducible rfl))
                  try simp only [Act.put, List.setIfInBounds_toArray, List.set_cons_zero, List.set_cons_succ]
                  refine wpAnyH_ready (rs := [15]) (by kernel_rfl) (by simp) ?_
                  refine (AllReadyH.cons rfl (fun K hK => ?_) AllReadyH.nil)
                  go_simp
                  skip
                  refine hK.out _ _ (hHeld.alloc hHeld.size _) (fun hHeld => ?_)
                  clear hK K
                  try simp only [Act.put, List.setIfInBounds_toArray, List.set_cons_zero, List.set_cons_succ]
                  refine wpAnyH_ready (rs := [16]) (by kernel_rfl) (by simp) ?_
                  refine (AllReadyH.cons rfl (fun K hK => ?_) AllReadyH.nil)
                  go_simp
                  skip
                  refine hK.out _ _ (((((Below.refl _ w3).alloc (Nat.le_refl _) _).alloc (by simp) _).drew)) (fun hHeld => ?_)
                  clear hK K
                  try simp only [Act.put]
                  refine wpAnyH_done (by kernel_rfl) ?_ _
                  refine (fun HH => ?_ : HereP (w3.heap.size + 1) p w3 _ → _) ⟨by rw [hpz]; simp, by rw [hpz]; simp, hHeld⟩
                  obtain ⟨e4, he4⟩ : ∃ e, w3.heap.size + 1 = e := ⟨_, rfl⟩
                  obtain ⟨g4, hg4⟩ : ∃ e, w3.heap.size = e := ⟨_, rfl⟩
                  rw [he4] at HH ⊢
                  rw [hg4]
                  clear he4 hg4 hHeld
                  exact hrest e4 g4 _ HH
                ·
                  go_simp
                  skip
                  refine hK.out _ _ (hHeld.alloc hHeld.size _) (fun hHeld => ?_)
                  clear hK K
                  try simp only [Act.put, List.setIfInBounds_toArray, List.set_cons_zero, List.set_cons_succ]
                  refine wpAnyH_ready (rs := [9]) (by kernel_rfl) (by simp) ?_
                  refine (AllReadyH.cons rfl (fun K hK => ?_) AllReadyH.nil)
                  go_simp
                  ((with_reducible refine (kq _).mono ?_); rintro e w5 ⟨rfl, rfl⟩)
                  refine hK.out _ _ (hHeld) (fun hHeld => ?_)
                  clear hK K
                  try simp only [Act.put, List.setIfInBounds_toArray, List.set_cons_zero, List.set_cons_succ]
                  refine wpAnyH_take (i := 14) (oi := ?o13o) (v := ?o13v) ?o13h (by kernel_rfl) (by kernel_rfl) (by kernel_rfl) ?o13q ?o13y hHeld ?o13r
                  case o13h => (simp only [List.getElem?_toArray, List.getElem?_cons_succ, List.getElem?_cons_zero]; rfl)
                  case o13q => exact fun _ _ _ h => h
                  case o13y => (refine Or.inl ⟨by first | kernel_rfl | rfl, ?_⟩; intro w hSw; (try dsimp only at hSw); have cc := (hSw.cell (p := ⟨gn, i, none⟩) hgn).trans CI.out; go_simp <;> (try with_reducible rfl))
                  try simp only [Act.put, List.setIfInBounds_toArray, List.set_cons_zero, List.set_cons_succ]
                  refine wpAnyH_ready (rs := [16]) (by kernel_rfl) (by simp) ?_
                  refine (AllReadyH.cons rfl (fun K hK => ?_) AllReadyH.nil)
                  go_simp
                  skip
                  refine hK.out _ _ (((((Below.refl _ w3).alloc (Nat.le_refl _) _).alloc (by simp) _).drew)) (fun hHeld => ?_)
                  clear hK K
                  try simp only [Act.put]
                  refine wpAnyH_done (by kernel_rfl) ?_ _
                  refine (fun HH => ?_ : HereP (w3.heap.size + 1) p w3 _ → _) ⟨by rw [hpz]; simp, by rw [hpz]; simp, hHeld⟩
                  obtain ⟨e4, he4⟩ : ∃ e, w3.heap.size + 1 = e := ⟨_, rfl⟩
                  obtain ⟨g4, hg4⟩ : ∃ e, w3.heap.size = e := ⟨_, rfl⟩
                  rw [he4] at HH ⊢
                  rw [hg4]
                  clear he4 hg4 hHeld
                  exact hrest e4 g4 _ HH
              ·
                go_simp
                skip
                refine hK.out _ _ (hHeld.alloc hHeld.size _) (fun hHeld => ?_)
                clear hK K
                try simp only [Act.put, List.setIfInBounds_toArray, List.set_cons_zero, List.set_cons_succ]
                refine wpAnyH_ready (rs := [8]) (by kernel_rfl) (by simp) ?_
                refine (AllReadyH.cons rfl (fun K hK => ?_) AllReadyH.nil)
                go_simp
                skip
                refine hK.out _ _ (hHeld) (fun hHeld => ?_)
                clear hK K
                try simp only [Act.put, List.setIfInBounds_toArray, List.set_cons_zero, List.set_cons_succ]
                refine wpAnyH_ready (rs := [9]) (by kernel_rfl) (by simp) ?_
                refine (AllReadyH.cons rfl (fun K hK => ?_) AllReadyH.nil)
                go_simp
                ((with_reducible refine (kq _).mono ?_); rintro e w5 ⟨rfl, rfl⟩)
                refine hK.out _ _ (hHeld) (fun hHeld => ?_)
                clear hK K
                try simp only [Act.put, List.setIfInBounds_toArray, List.set_cons_zero, List.set_cons_succ]
                refine wpAnyH_take (i := 14) (oi := ?o14o) (v := ?o14v) ?o14h (by kernel_rfl) (by kernel_rfl) (by kernel_rfl) ?o14q ?o14y hHeld ?o14r
                case o14h => (simp only [List.getElem?_toArray, List.getElem?_cons_succ, List.getElem?_cons_zero]; rfl)
                case o14q => exact fun _ _ _ h => h
                case o14y => (refine Or.inl ⟨by first | kernel_rfl | rfl, ?_⟩; intro w hSw; (try dsimp only at hSw); have cc := (hSw.cell (p := ⟨gn, i, none⟩) hgn).trans CI.out; go_simp <;> (try with_reducible rfl))
                try simp only [Act.put, List.setIfInBounds_toArray, List.set_cons_zero, List.set_cons_succ]
                refine wpAnyH_ready (rs := [16]) (by kernel_rfl) (by simp) ?_
                refine (AllReadyH.cons rfl (fun K hK => ?_) AllReadyH.nil)
                go_simp
                skip
                refine hK.out _ _ (((((Below.refl _ w3).alloc (Nat.le_refl _) _).alloc (by simp) _).drew)) (fun hHeld => ?_)
                clear hK K
                try simp only [Act.put]
                refine wpAnyH_done (by kernel_rfl) ?_ _
                refine (fun HH => ?_ : HereP (w3.heap.size + 1) p w3 _ → _) ⟨by rw [hpz]; simp, by rw [hpz]; simp, hHeld⟩
                obtain ⟨e4, he4⟩ : ∃ e, w3.heap.size + 1 = e := ⟨_, rfl⟩
                obtain ⟨g4, hg4⟩ : ∃ e, w3.heap.size = e := ⟨_, rfl⟩
                rw [he4] at HH ⊢
                rw [hg4]
                clear he4 hg4 hHeld
                exact hrest e4 g4 _ HH
            ·
              go_simp
              skip
              refine hK.out _ _ (hHeld.alloc hHeld.size _) (fun hHeld => ?_)
              clear hK K
              try simp only [Act.put, List.setIfInBounds_toArray, List.set_cons_zero, List.set_cons_succ]
              refine wpAnyH_ready (rs := [7]) (by kernel_rfl) (by simp) ?_
              refine (AllReadyH.cons rfl (fun K hK => ?_) AllReadyH.nil)
              go_simp
              skip
              refine hK.out _ _ (hHeld.alloc hHeld.size _) (fun hHeld => ?_)
              clear hK K
              try simp only [Act.put, List.setIfInBounds_toArray, List.set_cons_zero, List.set_cons_succ]
              refine wpAnyH_ready (rs := [8]) (by kernel_rfl) (by simp) ?_
              refine (AllReadyH.cons rfl (fun K hK => ?_) AllReadyH.nil)
              go_simp
              skip
              refine hK.out _ _ (hHeld) (fun hHeld => ?_)
              clear hK K
              try simp only [Act.put, List.setIfInBounds_toArray, List.set_cons_zero, List.set_cons_succ]
              refine wpAnyH_ready (rs := [9]) (by kernel_rfl) (by simp) ?_
              refine (AllReadyH.cons rfl (fun K hK => ?_) AllReadyH.nil)
              go_simp
              ((with_reducible refine (kq _).mono ?_); rintro e w5 ⟨rfl, rfl⟩)
              refine hK.out _ _ (hHeld) (fun hHeld => ?_)
              clear hK K
              try simp only [Act.put, List.setIfInBounds_toArray, List.set_cons_zero, List.set_cons_succ]
              refine wpAnyH_take (i := 14) (oi := ?o15o) (v := ?o15v) ?o15h (by kernel_rfl) (by kernel_rfl) (by kernel_rfl) ?o15q ?o15y hHeld ?o15r
              case o15h => (simp only [List.getElem?_toArray, List.getElem?_cons_succ, List.getElem?_cons_zero]; rfl)
              case o15q => exact fun _ _ _ h => h
              case o15y => (refine Or.inl ⟨by first | kernel_rfl | rfl, ?_⟩; intro w hSw; (try dsimp only at hSw); have cc := (hSw.cell (p := ⟨gn, i, none⟩) hgn).trans CI.out; go_simp <;> (try with_reducible rfl))
              try simp only [Act.put, List.setIfInBounds_toArray, List.set_cons_zero, List.set_cons_succ]
              refine wpAnyH_ready (rs := [16]) (by kernel_rfl) (by simp) ?_
              refine (AllReadyH.cons rfl (fun K hK => ?_) AllReadyH.nil)
              go_simp
              skip
              refine hK.out _ _ (((((Below.refl _ w3).alloc (Nat.le_refl _) _).alloc (by simp) _).drew)) (fun hHeld => ?_)
              clear hK K
              try simp only [Act.put]
              refine wpAnyH_done (by kernel_rfl) ?_ _
              refine (fun HH => ?_ : HereP (w3.heap.size) p w3 _ → _) ⟨by rw [hpz]; simp, by rw [hpz]; simp, hHeld⟩
              obtain ⟨e4, he4⟩ : ∃ e, w3.heap.size = e := ⟨_, rfl⟩
              obtain ⟨g4, hg4⟩ : ∃ e, w3.heap.size + 1 = e := ⟨_, rfl⟩
              rw [hg4]
              rw [he4] at HH ⊢
              clear he4 hg4 hHeld
              exact hrest e4 g4 _ HH
          intro e g3 W4 hH
          have H4 := Lib.hid hH
          have HO4 := Lib.hid (show OR w1 W4 (.slice a4 m d4) N O (i * 8 + k) from ⟨by rw [← HM.out]; exact HO.out.row.later hH.bel, bel_next HO.out.bel hH.bel, HO.out.pw, HO.out.perm⟩)
          clear hH HO CI ci KC kq hpz wm wk
          go_wp2
          go_loopg [8] m (fun g3 j wy => ∃ q : Nat, q + g3 = m ∧ j = .int .i64 (q : Int) ∧ Below W4.heap.size W4 wy ∧ Hid (∀ t (ht : t < O.length), t < q → leP O[t] p))
          case atStart => exact ⟨0, by omega, rfl, Below.refl _ _, Lib.hid fun t _ ht => absurd ht (Nat.not_lt_zero _)⟩
          case round =>
            obtain ⟨q, hq, rfl, hbel, hall⟩ := hrel
            have HO5 := Lib.hid (HO4.out.later hbel)
            have hbl := Lib.hid hbel
            have H5 := Lib.hid (H4.out.later hbel)
            cases gk with
            | zero =>
              obtain rfl : q = m := by omega
              have hqm : ¬ (q : Int) < (q : Int) := by omega
              have hno : Hid (∀ hj : q < O.length, ¬ leP O[q] p) := Lib.hid fun hj => absurd hj (by rw [HM.out]; omega)
              clear hbel
              go_wp2_with fail
              go_quiet (fail)
              have HB6 := below_drewN (Below.refl wr.heap.size wr) nq
              have HO6 := Lib.hid (HO5.out.later HB6)
              have H6 := Lib.hid (H5.out.later HB6)
              clear HB6 HO5 H5 hbl HO4 H4
              generalize wr.drewN nq = W5 at *
              obtain ⟨p1, c1, r1, n1⟩ := cutP_head HO6.out.row.pn q (by rw [HM.out]; omega)
              obtain ⟨p2, m2, c2, r2, n2⟩ := cutP_tail HO6.out.row.pn q (by rw [HM.out]; omega)
              have HN2 := Lib.hid n2
              clear n2
              go_wp2_with (at_builtin; refine wpList_pts rfl _ _ rfl W5.heap.size (.slice none 0 0) (.slice p1 q c1) [] (O.take q) rfl rfl (PRow.nil _ _ _) n1 (Nat.le_refl _) (by rw [List.length_take]; simp; omega) ?_)
              intro v6 w6 hr6 hb6 G6
              try rw [List.nil_append] at hr6
              have HR6 := Lib.hid hr6
              have HBB6 := Lib.hid hb6
              have H7 := H6.out.later hb6
              have z0 := H7.c0
              have z1 := H7.c1
              obtain ⟨a6, d6, e6⟩ := hr6.slice
              rw [e6] at HR6
              obtain ⟨n6, hn6⟩ : ∃ n, (O.take q).length = n := ⟨_, rfl⟩
              rw [hn6] at e6 HR6
              have HN6 := Lib.hid hn6
              subst e6
              clear hr6 hb6 G6 H7 r1 n1 hn6
              have hl2 : w6.heap.size ≤ w6.heap.size := Nat.le_refl _
              go_wp2_with (at_builtin; refine wpList_pts rfl _ _ rfl W5.heap.size (.slice a6 n6 d6) (.slice (some ⟨w6.heap.size, 0, none⟩) 1 1) (O.take q) [p] rfl rfl (HR6.out.later ((Below.refl _ w6).alloc (Nat.le_refl _) _)) (lit_pn w6 p _) (by have := HBB6.out.size; simp; omega) (by rw [HN6.out, ← HN6.out, List.length_take]; simp; omega) ?_)
              intro v7 w7 hr7 hb7 G7
              have HB7 := Lib.hid (HBB6.out.trans (((Below.refl W5.heap.size w6).alloc HBB6.out.size _).trans hb7))
              have hn7 := HN2.out.later HB7.out
              obtain ⟨a7, d7, e7⟩ := hr7.slice
              obtain ⟨n7, hn7'⟩ : ∃ n, (O.take q ++ [p]).length = n := ⟨_, rfl⟩
              rw [hn7'] at e7
              subst e7
              have hl7 : W5.heap.size ≤ w7.heap.size := HB7.out.size
              clear hb7 G7 z0 z1 hn7'
              go_wp2_with (at_builtin; refine wpList_pts rfl _ _ rfl W5.heap.size (.slice a7 n7 d7) (.slice p2 m2 c2) (O.take q ++ [p]) (O.drop q) rfl rfl hr7 hn7 hl7 (by have := HM.out; rw [List.length_append, List.length_take, List.length_drop]; simp; omega) ?_)
              intro v8 w8 hr8 hb8 G8
              have HR8 := Lib.hid hr8
              have HB8 := Lib.hid (HB7.out.trans hb8)
              clear hr8 hb8 G8 hr7 hn7
              go_wp2
              go_roundg g2
              case measure => omega
              case rel => exact ⟨k + 1, by omega, by go_num, _, HO6.out.put HPT.out (by rw [HM.out]; omega) hall.out hno.out (by rw [List.append_assoc]; exact HR8.out) HB8.out⟩
            | succ g3 =>
              have hqm : (q : Int) < (m : Int) := by omega
              have hqO : q < O.length := by rw [HM.out]; omega
              obtain ⟨b5, off, rfl, -, -, hc⟩ := HO5.out.row.pn.cell (by omega)
              obtain ⟨y0, y1⟩ := hc q hqO
              obtain ⟨x, hx⟩ : ∃ x, O[q] = x := ⟨_, rfl⟩
              rw [hx] at y0 y1
              have HXQ := Lib.hid hx
              have z0 := H5.out.c0
              have z1 := H5.out.c1
              clear hc hx hbel
              by_cases h1 : x.a < p.a
              · have g1 : decide (x.a < p.a) = true := decide_eq_true h1
                have HLE := Lib.hid ((leP_iff x p).2 (Or.inl h1))
                clear h1
                go_wp2_with fail
                go_quiet (fail)
                go_wp2
                go_roundg g3
                case measure => omega
                case rel =>
                  refine ⟨q + 1, by omega, by go_num, below_drewN hbl.out nq, Lib.hid fun t ht h1 => ?_⟩
                  by_cases e : t = q
                  · subst e; rw [HXQ.out]; exact HLE.out
                  · exact hall.out t ht (by omega)
              · have g1 : decide (x.a < p.a) = false := decide_eq_false h1
                by_cases h2 : x.a = p.a
                · have g2' : (x.a == p.a) = true := by simpa using h2
                  by_cases h3 : x.n ≤ p.n
                  · have g4 : decide (x.n ≤ p.n) = true := decide_eq_true h3
                    have HLE := Lib.hid ((leP_iff x p).2 (Or.inr ⟨h2, h3⟩))
                    clear h1 h2 h3
                    go_wp2_with fail
                    go_quiet (fail)
                    go_wp2
                    go_roundg g3
                    case measure => omega
                    case rel =>
                      refine ⟨q + 1, by omega, by go_num, below_drewN hbl.out nq, Lib.hid fun t ht h1 => ?_⟩
                      by_cases e : t = q
                      · subst e; rw [HXQ.out]; exact HLE.out
                      · exact hall.out t ht (by omega)
                  · have g4 : decide (x.n ≤ p.n) = false := decide_eq_false h3
                    have hno : Hid (∀ hj : q < O.length, ¬ leP O[q] p) := Lib.hid fun hj => by rw [HXQ.out, leP_iff]; omega
                    clear h1 h2 h3
                    go_wp2_with fail
                    go_quiet (fail)
                    clear y0 y1 z0 z1 g1 g2' g4
                    have HB6 := below_drewN (Below.refl wr.heap.size wr) nq
                    have HO6 := Lib.hid (HO5.out.later HB6)
                    have H6 := Lib.hid (H5.out.later HB6)
                    clear HB6 HO5 H5 hbl HO4 H4
                    generalize wr.drewN nq = W5 at *
                    obtain ⟨p1, c1, r1, n1⟩ := cutP_head HO6.out.row.pn q (by rw [HM.out]; omega)
                    obtain ⟨p2, m2, c2, r2, n2⟩ := cutP_tail HO6.out.row.pn q (by rw [HM.out]; omega)
                    have HN2 := Lib.hid n2
                    clear n2
                    go_wp2_with (at_builtin; refine wpList_pts rfl _ _ rfl W5.heap.size (.slice none 0 0) (.slice p1 q c1) [] (O.take q) rfl rfl (PRow.nil _ _ _) n1 (Nat.le_refl _) (by rw [List.length_take]; simp; omega) ?_)
                    intro v6 w6 hr6 hb6 G6
                    try rw [List.nil_append] at hr6
                    have HR6 := Lib.hid hr6
                    have HBB6 := Lib.hid hb6
                    have H7 := H6.out.later hb6
                    have z0 := H7.c0
                    have z1 := H7.c1
                    obtain ⟨a6, d6, e6⟩ := hr6.slice
                    rw [e6] at HR6
                    obtain ⟨n6, hn6⟩ : ∃ n, (O.take q).length = n := ⟨_, rfl⟩
                    rw [hn6] at e6 HR6
                    have HN6 := Lib.hid hn6
                    subst e6
                    clear hr6 hb6 G6 H7 r1 n1 hn6
                    have hl2 : w6.heap.size ≤ w6.heap.size := Nat.le_refl _
                    go_wp2_with (at_builtin; refine wpList_pts rfl _ _ rfl W5.heap.size (.slice a6 n6 d6) (.slice (some ⟨w6.heap.size, 0, none⟩) 1 1) (O.take q) [p] rfl rfl (HR6.out.later ((Below.refl _ w6).alloc (Nat.le_refl _) _)) (lit_pn w6 p _) (by have := HBB6.out.size; simp; omega) (by rw [HN6.out, ← HN6.out, List.length_take]; simp; omega) ?_)
                    intro v7 w7 hr7 hb7 G7
                    have HB7 := Lib.hid (HBB6.out.trans (((Below.refl W5.heap.size w6).alloc HBB6.out.size _).trans hb7))
                    have hn7 := HN2.out.later HB7.out
                    obtain ⟨a7, d7, e7⟩ := hr7.slice
                    obtain ⟨n7, hn7'⟩ : ∃ n, (O.take q ++ [p]).length = n := ⟨_, rfl⟩
                    rw [hn7'] at e7
                    subst e7
                    have hl7 : W5.heap.size ≤ w7.heap.size := HB7.out.size
                    clear hb7 G7 z0 z1 hn7'
                    go_wp2_with (at_builtin; refine wpList_pts rfl _ _ rfl W5.heap.size (.slice a7 n7 d7) (.slice p2 m2 c2) (O.take q ++ [p]) (O.drop q) rfl rfl hr7 hn7 hl7 (by have := HM.out; rw [List.length_append, List.length_take, List.length_drop]; simp; omega) ?_)
                    intro v8 w8 hr8 hb8 G8
                    have HR8 := Lib.hid hr8
                    have HB8 := Lib.hid (HB7.out.trans hb8)
                    clear hr8 hb8 G8 hr7 hn7
                    go_wp2
                    go_roundg g2
                    case measure => omega
                    case rel => exact ⟨k + 1, by omega, by go_num, _, HO6.out.put HPT.out (by rw [HM.out]; omega) hall.out hno.out (by rw [List.append_assoc]; exact HR8.out) HB8.out⟩
                · have g2' : (x.a == p.a) = false := by simpa using h2
                  have hno : Hid (∀ hj : q < O.length, ¬ leP O[q] p) := Lib.hid fun hj => by rw [HXQ.out, leP_iff]; omega
                  clear h1 h2
                  go_wp2_with fail
                  go_quiet (fail)
                  clear y0 y1 z0 z1 g1 g2'
                  have HB6 := below_drewN (Below.refl wr.heap.size wr) nq
                  have HO6 := Lib.hid (HO5.out.later HB6)
                  have H6 := Lib.hid (H5.out.later HB6)
                  clear HB6 HO5 H5 hbl HO4 H4
                  generalize wr.drewN nq = W5 at *
                  obtain ⟨p1, c1, r1, n1⟩ := cutP_head HO6.out.row.pn q (by rw [HM.out]; omega)
                  obtain ⟨p2, m2, c2, r2, n2⟩ := cutP_tail HO6.out.row.pn q (by rw [HM.out]; omega)
                  have HN2 := Lib.hid n2
                  clear n2
                  go_wp2_with (at_builtin; refine wpList_pts rfl _ _ rfl W5.heap.size (.slice none 0 0) (.slice p1 q c1) [] (O.take q) rfl rfl (PRow.nil _ _ _) n1 (Nat.le_refl _) (by rw [List.length_take]; simp; omega) ?_)
                  intro v6 w6 hr6 hb6 G6
                  try rw [List.nil_append] at hr6
                  have HR6 := Lib.hid hr6
                  have HBB6 := Lib.hid hb6
                  have H7 := H6.out.later hb6
                  have z0 := H7.c0
                  have z1 := H7.c1
                  obtain ⟨a6, d6, e6⟩ := hr6.slice
                  rw [e6] at HR6
                  obtain ⟨n6, hn6⟩ : ∃ n, (O.take q).length = n := ⟨_, rfl⟩
                  rw [hn6] at e6 HR6
                  have HN6 := Lib.hid hn6
                  subst e6
                  clear hr6 hb6 G6 H7 r1 n1 hn6
                  have hl2 : w6.heap.size ≤ w6.heap.size := Nat.le_refl _
                  go_wp2_with (at_builtin; refine wpList_pts rfl _ _ rfl W5.heap.size (.slice a6 n6 d6) (.slice (some ⟨w6.heap.size, 0, none⟩) 1 1) (O.take q) [p] rfl rfl (HR6.out.later ((Below.refl _ w6).alloc (Nat.le_refl _) _)) (lit_pn w6 p _) (by have := HBB6.out.size; simp; omega) (by rw [HN6.out, ← HN6.out, List.length_take]; simp; omega) ?_)
                  intro v7 w7 hr7 hb7 G7
                  have HB7 := Lib.hid (HBB6.out.trans (((Below.refl W5.heap.size w6).alloc HBB6.out.size _).trans hb7))
                  have hn7 := HN2.out.later HB7.out
                  obtain ⟨a7, d7, e7⟩ := hr7.slice
                  obtain ⟨n7, hn7'⟩ : ∃ n, (O.take q ++ [p]).length = n := ⟨_, rfl⟩
                  rw [hn7'] at e7
                  subst e7
                  have hl7 : W5.heap.size ≤ w7.heap.size := HB7.out.size
                  clear hb7 G7 z0 z1 hn7'
                  go_wp2_with (at_builtin; refine wpList_pts rfl _ _ rfl W5.heap.size (.slice a7 n7 d7) (.slice p2 m2 c2) (O.take q ++ [p]) (O.drop q) rfl rfl hr7 hn7 hl7 (by have := HM.out; rw [List.length_append, List.length_take, List.length_drop]; simp; omega) ?_)
                  intro v8 w8 hr8 hb8 G8
                  have HR8 := Lib.hid hr8
                  have HB8 := Lib.hid (HB7.out.trans hb8)
                  clear hr8 hb8 G8 hr7 hn7
                  go_wp2
                  go_roundg g2
                  case measure => omega
                  case rel => exact ⟨k + 1, by omega, by go_num, _, HO6.out.put HPT.out (by rw [HM.out]; omega) hall.out hno.out (by rw [List.append_assoc]; exact HR8.out) HB8.out⟩
end Go.Proofs.Ytmmkbedheeeecaa

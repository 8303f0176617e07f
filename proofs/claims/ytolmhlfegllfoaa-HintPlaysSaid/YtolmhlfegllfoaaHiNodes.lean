/- Owed, Nodes. -/
import Derived.Test.YtolmhlfegllfoaaHiFor
set_option maxRecDepth 20000
set_option linter.unusedSimpArgs false
set_option linter.unusedVariables false
namespace Go.Proofs.Ytolmhlfegllfoaa.Qu.Hi
open Go.RowKit Go.Maps Go.Proofs.Ytolmhlfegllfoaa.Vi Go.Proofs.Ytolmhlfegllfoaa.Mk

theorem pickN_all {q : Int → Bool} {k : Nat} : ∀ n ∈ pickN q k, (0 ≤ n ∧ n < (k : Int)) ∧ q n = true := fun n hn => by
  unfold pickN at hn
  obtain ⟨h1, h2⟩ := List.mem_filter.1 hn
  obtain ⟨i, hi, rfl⟩ := List.mem_map.1 h1
  have := List.mem_range.1 hi
  exact ⟨by omega, h2⟩
structure OwJ (w wr : World) (q : Int → Bool) (p : Pt) (k : Nat) (v : Value) : Prop where
  row : IRow wr (w.heap.size + 1) v (pickN q k)
  bel1 : Below (w.heap.size + 1) (w.alloc (.cells #[.string p.s, .int .i64 p.t, .int .i64 p.v, .int .i64 p.st.c, .int .i64 p.st.s, .int .i64 p.st.q] 31)) wr
theorem OwJ.bel {w wr : World} {q : Int → Bool} {p : Pt} {k : Nat} {v : Value} (h : OwJ w wr q p k v) : Below w.heap.size w wr := ((Below.refl w.heap.size w).alloc (Nat.le_refl _) _).trans (h.bel1.mono (by omega))
theorem OwJ.pt {w wr : World} {q : Int → Bool} {p : Pt} {k : Nat} {v : Value} (h : OwJ w wr q p k v) : PtAt wr w.heap.size p := (PtAt.new w p).below h.bel1 (by omega)
theorem OwJ.sz {w wr : World} {q : Int → Bool} {p : Pt} {k : Nat} {v : Value} (h : OwJ w wr q p k v) : w.heap.size + 1 ≤ wr.heap.size := by have := h.bel1.size; simpa using this
set_option maxHeartbeats 4000000 in
theorem owed_is {w : World} {B b : Nat} {mv : Option Nat} {room : Int} {L : List Hk} (h : HiAt w B b mv room L) (p : Pt) (hp : ∀ k : Nat, k < 16 → Hk.big ⟨p, (k : Int)⟩) : Calls Try.prog 22 #[.pointer (some ⟨b, 0, none⟩), ptV p] w (IDone (owedL L p) w) := by
  have kh := fun (x : Hk) (hx : x.big) (W : World) (h : HiAt W B b mv room L) => has_is h x hx
  have H := Lib.hid h
  have HP := Lib.hid hp
  obtain ⟨Q, hQ⟩ : ∃ Q, Q = fun n => hasB L ⟨p, n⟩ := ⟨_, rfl⟩
  have HE := Lib.hid (show owedL L p = pickN Q 16 by rw [hQ]; rfl)
  have HQ := Lib.hid (show ∀ k : Nat, Q (k : Int) = hasB L ⟨p, (k : Int)⟩ from fun k => by rw [hQ])
  clear h hp hQ
  unfold ptV
  go_enter Try.func22, Try.ntmps22
  go_wp2
  go_loopg [5, 7] 16 (fun g o i wr => ∃ (k : Nat), k + g = 16 ∧ i = .int .i64 (k : Int) ∧ Hid (OwJ w wr Q p k o))
  case atStart => exact ⟨0, by omega, rfl, Lib.hid ⟨IRow.nil _ _, Below.refl _ _⟩⟩
  case round =>
    obtain ⟨k, hk, rfl, HJ⟩ := hrel
    obtain ⟨w3, hw3⟩ : ∃ x, x = wr := ⟨_, rfl⟩
    subst hw3
    obtain ⟨a5, c5, rfl⟩ := HJ.out.row.slice
    obtain ⟨r, hr⟩ : ∃ r, (pickN Q k).length = r := ⟨_, rfl⟩
    have hrk : r ≤ k := by rw [← hr]; exact pickN_len _ _
    rw [hr] at HJ ⊢
    have HRL := Lib.hid hr
    clear hr
    cases gk with
    | zero =>
      obtain rfl : k = 16 := by omega
      clear hk
      go_wp2
      go_ret
      exact ⟨_, rfl, by rw [HE.out]; exact own_base HJ.out.row (by omega), HJ.out.bel⟩
    | succ g =>
      have hlt : (k : Int) < 16 := by omega
      have hk16 : k < 16 := by omega
      obtain ⟨x0, x1, x2, x3, x4, x5⟩ := HJ.out.pt
      have khk := kh ⟨p, (k : Int)⟩ (HP.out k hk16) _ (H.out.later HJ.out.bel)
      rw [← HQ.out k] at khk
      unfold hkV at khk
      cases hz : Q (k : Int) with
      | false =>
        have HX := Lib.hid (pickN_no (q := Q) hz)
        rw [hz] at khk
        clear hz hk16
        go_wp2_with (go_at_call 39; (with_reducible refine khk.mono ?_); rintro e w5 ⟨rfl, hb5⟩; (have HB5 := Lib.hid hb5); clear hb5)
        go_roundg g
        case measure => omega
        case rel => exact ⟨k + 1, by omega, by go_num, Lib.hid ⟨by rw [HX.out]; exact HJ.out.row.later HB5.out, HJ.out.bel1.trans (HB5.out.mono HJ.out.sz)⟩⟩
      | true =>
        have HX := Lib.hid (pickN_yes (q := Q) hz)
        rw [hz] at khk
        clear hz hk16
        go_wp2_with (first
          | (go_at_call 39; (with_reducible refine khk.mono ?_); rintro e w5 ⟨rfl, hb5⟩; (have HR5 := Lib.hid (HJ.out.row.later hb5)); (have HC5 := Lib.hid (HJ.out.bel1.trans (hb5.mono HJ.out.sz))); (have HS5 := Nat.le_trans HJ.out.sz hb5.size); clear hb5)
          | (at_builtin; refine wpList_irow (w := w5) rfl _ _ rfl (w.heap.size + 1) (.slice a5 r c5) (pickN Q k) rfl (k : Int) rfl HR5.out HS5 ?hl ?_; (case hl => (rw [HRL.out]; omega)); intro v4 w4 hr4 hb4 G4; (have HR4 := Lib.hid hr4); (have HB4 := Lib.hid (HC5.out.trans hb4)); clear hr4 hb4 G4))
        go_roundg g
        case measure => omega
        case rel => exact ⟨k + 1, by omega, by go_num, Lib.hid ⟨by rw [HX.out]; exact HR4.out, HB4.out⟩⟩
theorem wpList_irowN {w : World} {ops : Array Oper} {rest : List Oper} {o : Oper} {a : Act} {Q : Exit → Act → World → Prop} (hgd : o.guard = none) (sl x : Operand)
    (ho : o.op = .call { callee := .builtin .append, args := #[sl, x], argTypes := #[32, 32] })
    (B : Nat) (v : Value) (xs : List Int) (hs : a.eval sl = v) (y : Int) (N : Nat) (hx : a.eval x = .slice (some ⟨N, 0, none⟩) 1 1) (hN : w.heap.size = N) (hown : IRow w B v xs) (hB : B ≤ w.heap.size) (hl : xs.length ≤ 1000000)
    (h : ∀ v' w', IRow w' B v' (xs ++ [y]) → Below B w w' → Grew w w' v v' → wpList Try.prog ops Q rest (a.put o.dst v') w') : wpList Try.prog ops Q (o :: rest) a (w.alloc (.cells #[.int .i64 y] 3)) := by
  subst hN
  exact wpList_irow hgd sl x ho B v xs hs y hx hown hB hl h
theorem irow_ns {w : World} {B : Nat} {v : Value} {xs : List Int} (h : IRow w B v xs) (hw : ∀ n ∈ xs, -9223372036854775808 ≤ n ∧ n ≤ 9223372036854775807) (hl : xs.length ≤ 1000) : Ns w v xs := by
  obtain ⟨a, c, rfl⟩ := h.slice
  refine ⟨⟨a, c, rfl, ?_⟩, hw, by omega, Nat.le_refl _⟩
  by_cases h0 : xs = []
  · exact Or.inl h0
  · obtain ⟨g, rfl, -, hg, hc⟩ := h.cell (by cases xs with
      | nil => exact absurd rfl h0
      | cons x t => simp)
    exact Or.inr ⟨g, 0, rfl, hg, fun j hj => by rw [Nat.zero_add]; exact hc j hj⟩
/-- The nodes that were met. -/
structure Met (P : List Hk) (N : List Int) : Prop where
  nodup : N.Nodup
  mem : ∀ i, i ∈ N ↔ anyB P i = true
theorem any_snoc (P : List Hk) (x : Hk) (i : Int) : anyB (P ++ [x]) i = (anyB P i || decide (x.n = i)) := by unfold anyB; simp
theorem Met.old {P : List Hk} {N : List Int} {x : Hk} (h : Met P N) (hx : x.n ∈ N) : Met (P ++ [x]) N := ⟨h.nodup, fun i => by
  rw [any_snoc, Bool.or_eq_true, decide_eq_true_eq, ← h.mem]
  constructor
  · exact Or.inl
  · rintro (h1 | rfl)
    · exact h1
    · exact hx⟩
theorem Met.new {P : List Hk} {N : List Int} {x : Hk} (h : Met P N) (hx : x.n ∉ N) : Met (P ++ [x]) (N ++ [x.n]) := by
  refine ⟨List.nodup_append.2 ⟨h.nodup, by simp, fun a ha b hb e => hx ?_⟩, fun i => ?_⟩
  · rw [List.mem_singleton] at hb
    rw [← hb, ← e]; exact ha
  · rw [any_snoc, Bool.or_eq_true, decide_eq_true_eq, ← h.mem, List.mem_append, List.mem_singleton]
    exact or_congr Iff.rfl eq_comm
theorem pick_pair (q : Int → Bool) : (pick q).Pairwise fun x y => x ≤ y := by
  unfold pick pickN
  refine List.Pairwise.filter _ ?_
  decide
theorem any_perm {P L : List Hk} (h : P.Perm L) (i : Int) : anyB P i = anyB L i := by
  unfold anyB
  rw [Bool.eq_iff_iff, List.any_eq_true, List.any_eq_true]
  exact ⟨fun ⟨x, h1, h2⟩ => ⟨x, h.mem_iff.1 h1, h2⟩, fun ⟨x, h1, h2⟩ => ⟨x, h.mem_iff.2 h1, h2⟩⟩
theorem Met.end_ {P L : List Hk} {N : List Int} (h : Met P N) (hp : P.Perm L) (hG : Good L) : srtI N = nodesH L := by
  symm
  refine srtI_uniq ?_ (pick_pair _)
  refine (List.perm_ext_iff_of_nodup (pick_nodup _) h.nodup).2 fun i => ?_
  rw [pick_mem, h.mem, any_perm hp]
  constructor
  · exact fun h => h.2
  · intro h1
    refine ⟨?_, h1⟩
    unfold anyB at h1
    obtain ⟨x, hx, e⟩ := List.any_eq_true.1 h1
    simp only [decide_eq_true_eq] at e
    rw [← e]
    exact (hG.fine x hx).node
structure NoJ (w wr : World) (m : Nat) (L : List Hk) (q : Nat) (v : Value) (N : List Int) : Prop where
  it : ∃ (left : Lit → Bool) (cnt : Nat) (D : DataW Value) (M P : List Hk), wr.ranges Try.prog TKK unitElem m w.heap.size L.length D left cnt ∧ LIs left M ∧ (P ++ M).Perm L ∧ Met P N
  row : IRow wr (w.heap.size + 1) v N
  len : N.length = q
  bel : Below w.heap.size w wr
  lo : w.heap.size + 1 ≤ wr.heap.size
theorem Met.wide {P : List Hk} {N : List Int} (h : Met P N) (hf : ∀ x ∈ P, x.fine) : ∀ i ∈ N, 0 ≤ i ∧ i < 16 := fun i hi => by
  have h2 := (h.mem i).1 hi
  unfold anyB at h2
  obtain ⟨x, hx, e⟩ := List.any_eq_true.1 h2
  simp only [decide_eq_true_eq] at e
  have := (hf x hx).node
  omega
theorem met_len {P : List Hk} {N : List Int} (h : Met P N) (hf : ∀ x ∈ P, x.fine) : N.length ≤ 16 := by
  have hp : (pick (anyB P)).Perm N := (List.perm_ext_iff_of_nodup (pick_nodup _) h.nodup).2 fun i => by
    rw [pick_mem, h.mem]
    exact ⟨fun h => h.2, fun h1 => ⟨h.wide hf i ((h.mem i).2 h1), h1⟩⟩
  rw [← hp.length_eq]
  exact pick_len _
set_option maxHeartbeats 8000000 in
theorem nodes_some {w : World} {B b m : Nat} {room : Int} {L : List Hk} (h : HiAt w B b (some m) room L) : Calls Try.prog 24 #[.pointer (some ⟨b, 0, none⟩)] w (IDone (nodesH L) w) := by
  have ka := all_is h
  have HGD := Lib.hid h.good
  obtain ⟨-, ⟨D0, hD0, hI0⟩, hG0⟩ := h.some_ m rfl
  have hmlt := h.mlt
  obtain ⟨w0, hrun0, hrg0, hg0, hs0⟩ := hD0.range klaw undM
  have HJ0 := Lib.hid (show NoJ w w0 m L 0 (.slice none 0 0) [] from ⟨⟨_, _, D0, L, [], hrg0, hI0.left, by rw [List.nil_append], List.nodup_nil, fun i => by simp [anyB]⟩, IRow.nil _ _, rfl, ⟨hg0.os, hg0.tape, hg0.output, hg0.size, fun k hk => hg0.block k hk (by simp)⟩, by omega⟩)
  have HBIG := Lib.hid (fun x (hx : x ∈ L) => (h.good.fine x hx).big)
  have ks := fun (v : Value) (l : List Int) (W : World) (h : IRow W (w.heap.size + 1) v l) (hl : l.length ≤ 1000000) => sorti_is v l _ W h hl
  clear h hrg0 hg0 hs0 hD0 hI0 hG0
  go_enter Try.func24, Try.ntmps24
  go_wp2
  go_step3
  go_wp2
  go_step3
  go_wp2_with (go_at_call 30; (with_reducible refine ka.mono ?_); rintro e w1 ⟨rfl, rfl⟩)
  try go_frame
  go_loopw [3, 4, 6] (fun s3 s4 s6 wr => ∃ (q : Nat) (a5 : Option Addr) (c5 : Nat) (N : List Int), s3 = .slice a5 q c5 ∧ Hid (NoJ w wr m L q (.slice a5 q c5) N)) (fun _ _ _ wr => wr.rangeLeft m w.heap.size)
  case atStart => exact ⟨0, none, 0, [], rfl, HJ0⟩
  case round =>
    obtain ⟨q, a5, c5, N, rfl, HJ⟩ := hrel
    obtain ⟨w8, hw8⟩ : ∃ x, x = wr := ⟨_, rfl⟩
    subst hw8
    obtain ⟨left, cnt, D, M, P, hrg, hL, hP, hN⟩ := HJ.out.it
    have HE8 := Lib.hid hrg.left_eq
    have hMn : M.Nodup := (List.nodup_append.1 (hP.nodup_iff.2 HGD.out.nodup)).2.1
    have hML : ∀ x ∈ M, x ∈ L := fun x hx => hP.mem_iff.1 (List.mem_append_right _ hx)
    have hPf : ∀ x ∈ P, x.fine := fun x hx => HGD.out.fine x (hP.mem_iff.1 (List.mem_append_left _ hx))
    have hR := HJ.out.row
    have hq := HJ.out.len
    have hq6 : q ≤ 16 := by rw [← hq]; exact met_len hN hPf
    rcases hrg.next klaw 0 with ⟨h0, hl0, hrun⟩ | ⟨key, v, kl, y, w9, cnt9, hkey, hlk, hv, hat, hrun, hrg9, hlt9, hg9, hs9, hen⟩
    · have hM0 := hL.none (fun x hx => HBIG.out x (hML x hx)) hl0
      subst hM0
      rw [List.append_nil] at hP
      have HEND := Lib.hid (hN.end_ hP HGD.out)
      have hks := ks (.slice a5 q c5) N w8 hR (by omega)
      have HNE := Lib.hid (show ∀ g, (Value.slice a5 q c5).ownBlock = some g → w.heap.size + 1 ≤ g from fun g hg => (World.ownsRow.lt hR g hg).1)
      have HBW := Lib.hid HJ.out.bel
      clear hrg hL hML hMn hl0 hR HJ ks hN hPf hq
      go_wp2_with (go_at_call 40; (with_reducible refine hks.mono ?_); rintro e w10 ⟨rfl, hR10, hg10⟩; (have HB10 := Lib.hid (HBW.out.grown hg10 HBW.out.size fun g hg => by (have h1 := HNE.out g hg); omega)); (have HR10 := Lib.hid hR10); clear hR10 hg10)
      go_ret
      exact ⟨_, rfl, by rw [← HEND.out]; exact own_base HR10.out (by omega), HB10.out⟩
    · obtain ⟨x, rfl, rfl, hxb, rfl, hxM⟩ := step_key hkey hv hL hlk
      have hB9 := grown_bel HJ.out.bel hg9 (Nat.le_refl _)
      have hR9 : IRow w9 (w.heap.size + 1) (.slice a5 q c5) N := World.ownsRow.kept hR hg9 (by
        by_cases hv : (Value.slice a5 q c5).ownBlock = none
        · exact Or.inl hv
        · refine Or.inr fun e => ?_
          have := (World.ownsRow.lt hR _ e).1
          omega)
      have hal : Below w9.heap.size w9 (w9.alloc (box7 x)) := (Below.refl _ _).alloc (Nat.le_refl _) _
      have hk7 := K7.new w9 x
      have hL9 := hL.strike hxb
      have hP9 := perm_strike hP hMn hxM
      have hrga : (w9.alloc (box7 x)).ranges Try.prog TKK unitElem m w.heap.size L.length D _ cnt9 := hrg9.alloc _
      have hlo9 : w.heap.size + 1 ≤ w9.heap.size := by have := HJ.out.lo; omega
      have hRA := hR9.later hal
      have HCELL := Lib.hid (show 0 < q → ∃ g, a5 = some ⟨g, 0, none⟩ ∧ ∀ j (hj : j < N.length), (w9.alloc (box7 x)).cell? ⟨g, j, none⟩ = some (.int .i64 N[j]) from fun h0 => by
        obtain ⟨g, e, -, -, hc⟩ := hRA.cell (by omega)
        exact ⟨g, e, hc⟩)
      have HOLD := Lib.hid (show ∀ s, s < N.length → (hs : s < N.length) → N[s] = x.n → NoJ w (w9.alloc (box7 x)) m L q (.slice a5 q c5) N from fun s _ hs e => ⟨⟨_, _, _, _, P ++ [x], hrga, hL9, hP9, hN.old (by rw [← e]; exact List.getElem_mem hs)⟩, hRA, hq, bel_next hB9 hal, by simp; omega⟩)
      have HNEW := Lib.hid (show x.n ∉ N → ∀ (v6 : Value) (w11 : World), IRow w11 (w.heap.size + 1) v6 (N ++ [x.n]) → Grew (w9.alloc (box7 x)) w11 (.slice a5 q c5) v6 → NoJ w w11 m L (q + 1) v6 (N ++ [x.n]) ∧ w11.rangeLeft m w.heap.size = cnt9 from fun hx v6 w11 h1 G => by
        have hne : ∀ g, (Value.slice a5 q c5).ownBlock = some g → w.heap.size + 1 ≤ g := fun g hg => (World.ownsRow.lt hR g hg).1
        have hk : w11.ranges Try.prog TKK unitElem m w.heap.size L.length D _ cnt9 := hrga.kept G.grown (fun e => by have := hne m e.symm; omega) (fun e => by have := hne _ e.symm; omega)
        refine ⟨⟨⟨_, _, _, _, P ++ [x], hk, hL9, hP9, hN.new hx⟩, h1, by rw [List.length_append, hq]; rfl, ?_, ?_⟩, hk.left_eq⟩
        · exact (bel_next hB9 hal).grown G.grown (by simp; omega) fun g hg => by have := hne g hg; omega
        · have := G.grown.size; simp at this; omega)
      have HEA := Lib.hid hrga.left_eq
      obtain ⟨y0, y1, y2, y3, y4, y5, y6⟩ := hk7
      have HRA := Lib.hid hRA
      have HQ := Lib.hid hq
      have HSZ := Lib.hid (show w.heap.size + 1 ≤ (w9.alloc (box7 x)).heap.size by simp; omega)
      unfold hkV at hrun hen
      clear hrg hL hML hMn hlk hkey hv hat hrg9 hg9 hs9 hxM hB9 hR9 hal hL9 hP9 hrga hlo9 hR hP hRA hN hPf hq
      go_wp2
      go_loopg [6, 16] q (fun g2 s6 jj wy => ∃ j : Nat, j + g2 = q ∧ jj = .int .i64 (j : Int) ∧ wy = w9.alloc (box7 x) ∧ Hid (∀ s (hs : s < N.length), s < j → N[s] ≠ x.n))
      case atStart => exact ⟨0, by omega, rfl, rfl, Lib.hid fun s _ hs => absurd hs (Nat.not_lt_zero _)⟩
      case round =>
        obtain ⟨j, hj, rfl, rfl, hall⟩ := hrel
        cases gk with
        | zero =>
          have hjq : ¬ (j : Int) < (q : Int) := by omega
          have hnx : x.n ∉ N := fun hm => by
            obtain ⟨s, hs, e⟩ := List.getElem_of_mem hm
            exact hall.out s hs (by rw [HQ.out] at hs; omega) e
          have HNX := Lib.hid (HNEW.out hnx)
          clear hnx hj
          go_wp2_with (at_builtin; refine wpList_irowN (w := w9.alloc (box7 x)) rfl _ _ rfl (w.heap.size + 1) (.slice a5 q c5) N rfl x.n (w9.heap.size + 1) rfl ?hx HRA.out HSZ.out ?hl ?_; (case hx => simp); (case hl => (rw [HQ.out]; omega)); intro v4 w4 hr4 hb4 G4; (have H11 := Lib.hid (HNX.out v4 w4 hr4 G4)); (obtain ⟨a4, d4, e4⟩ := hr4.slice); (rw [List.length_append, HQ.out] at e4); (have e4 : v4 = .slice a4 (q + 1) d4 := e4); subst e4; clear hr4 hb4 G4)
          go_roundw
          case rel => exact ⟨q + 1, a4, d4, _, rfl, Lib.hid H11.out.1⟩
          case measure => rw [H11.out.2, HE8.out]; omega
        | succ g2 =>
          have hjq : (j : Int) < (q : Int) := by omega
          have hjl : j < N.length := by rw [HQ.out]; omega
          obtain ⟨g, rfl, hc⟩ := HCELL.out (by omega)
          have z0 := hc j hjl
          obtain ⟨z, hz⟩ : ∃ z, N[j] = z := ⟨_, rfl⟩
          rw [hz] at z0
          have HZ := Lib.hid hz
          clear hc hz
          by_cases hxz : z = x.n
          · have hqz : (z == x.n) = true := by simpa using hxz
            have HO := Lib.hid (HOLD.out j hjl hjl (HZ.out.trans hxz))
            clear hxz hj
            go_wp2
            go_roundw
            case rel => exact ⟨q, _, c5, N, rfl, HO⟩
            case measure => rw [HEA.out, HE8.out]; omega
          · have hqz : (z == x.n) = false := by simpa using hxz
            have HXZ := Lib.hid hxz
            clear hxz
            go_wp2
            go_roundg g2
            case measure => omega
            case rel =>
              refine ⟨j + 1, by omega, by go_num, rfl, Lib.hid fun s hs h1 => ?_⟩
              by_cases e : s = j
              · subst e; rw [HZ.out]; exact HXZ.out
              · exact hall.out s hs (by omega)
end Go.Proofs.Ytolmhlfegllfoaa.Qu.Hi

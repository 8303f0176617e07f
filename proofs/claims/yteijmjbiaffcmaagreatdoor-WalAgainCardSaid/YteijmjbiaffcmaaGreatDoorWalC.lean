/- Joined: WalHead, WalReadMath. -/
import Derived.Test.YteijmjbiaffcmaaGreatDoorWalB
import Derived.Test.YteijmjbiaffcmaaGreatDoorVintB
import Derived.Test.YteijmjbiaffcmaaGreatDoorFrameScan
import Derived.Laws.Rows
import Derived.Deep.MidRow
/- Contracts of a segment's head: right, Head, headerOf. -/
set_option maxRecDepth 20000
set_option linter.unusedSimpArgs false
set_option linter.unusedVariables false
namespace Go.Proofs.YteijmjbiaffcmaaGreatDoor
open Go.RowKit Go.Maps Go.Shelf Go.Proofs.YteijmjbiaffcmaaGreatDoor.Vi Go.Proofs.YteijmjbiaffcmaaGreatDoor.Crc Go.Proofs.YteijmjbiaffcmaaGreatDoor.Fr Go.Proofs.YteijmjbiaffcmaaGreatDoor.Fi

def rightB (f : Int) (k : Bool) (s : ByteArray) : Bool := decide (1 ≤ f) && (decide (f ≤ 1099511627776) && (k || decide (s.size = 0)))
theorem size0 {s : ByteArray} (h : s.size = 0) : s = ⟨#[]⟩ := by
  apply ByteArray.ext
  have : s.data.size = 0 := h
  exact Array.eq_empty_of_size_eq_zero this
theorem size0' {s : ByteArray} (h : s.data.toList = []) : s = ⟨#[]⟩ := by
  apply ByteArray.ext
  exact Array.toList_eq_nil_iff.1 h
set_option maxHeartbeats 2000000 in
theorem right_is (f : Int) (k : Bool) (s : ByteArray) (o : Bool) (w : World) (H : Hid (rightB f k s = o)) : Calls Tryz.prog 43 #[.agg #[.int .i64 f, .bool k, .string s]] w fun e w' => e = .returned (.bool o) ∧ Below w.heap.size w w' := by
  have H := H.out
  unfold rightB at H
  by_cases h0 : 1 ≤ f
  · by_cases h1 : f ≤ 1099511627776
    · cases k with
      | true =>
        obtain rfl : true = o := by rw [← H]; simp [h0, h1]
        clear H
        go_enter Tryz.func43, Tryz.ntmps43
        go_wp2
        go_ret
        exact ⟨rfl, bel_al w _⟩
      | false =>
        by_cases hs : s.size = 0
        · obtain rfl := size0 hs
          obtain rfl : true = o := by rw [← H, decide_eq_true h0, decide_eq_true h1]; rfl
          clear H hs
          go_enter Tryz.func43, Tryz.ntmps43
          go_wp2
          go_ret
          exact ⟨rfl, bel_al w _⟩
        · obtain rfl : false = o := by rw [← H]; simp [h0, h1, hs]
          have hne := str_ne (a := s) (b := ⟨#[]⟩) (fun e => hs (by rw [e]; rfl))
          clear H hs
          have hne2 : s.toList.isEmpty = false := by
            rw [ByteArray.toList_eq]
            cases hq : s.data.toList with
            | nil => exact absurd (size0' hq) (fun e => by rw [e] at hne; simp at hne)
            | cons => rfl
          go_enter Tryz.func43, Tryz.ntmps43
          go_wp2
          go_ret
          exact ⟨by rw [← hne2]; rfl, bel_al w _⟩
    · obtain rfl : false = o := by rw [← H]; simp [h1]
      clear H
      go_enter Tryz.func43, Tryz.ntmps43
      go_wp2
      go_ret
      exact ⟨rfl, bel_al w _⟩
  · obtain rfl : false = o := by rw [← H]; simp [h0]
    clear H
    go_enter Tryz.func43, Tryz.ntmps43
    go_wp2
    go_ret
    exact ⟨rfl, bel_al w _⟩
def bodyH (f : Int) (k : Bool) (s : ByteArray) : List UInt8 := enc f.toNat ++ ((if k then 1 else 0) :: (enc s.size ++ s.data.toList))
def headB (f : Int) (k : Bool) (s : ByteArray) : ByteArray := if rightB f k s then tx (fr (bodyH f k s)) else ⟨#[]⟩
theorem bodyH_len (f : Int) (k : Bool) (s : ByteArray) (hf : f ≤ 1099511627776) (hs : s.size ≤ 60000) : (bodyH f k s).length ≤ 60100 := by
  unfold bodyH
  have h1 := enc_len10 f.toNat (by omega)
  have h2 := enc_len10 s.size (by omega)
  have h3 : s.data.toList.length = s.size := by simp
  simp only [List.length_append, List.length_cons]
  omega
set_option maxHeartbeats 4000000 in
theorem head_is (f : Int) (k : Bool) (s t : ByteArray) (w : World) (hf0 : -9223372036854775808 ≤ f ∧ f ≤ 9223372036854775807) (hs : s.size ≤ 60000) (G : Glob w) (H : Hid (headB f k s = t)) : Calls Tryz.prog 15 #[.int .i64 f, .bool k, .string s] w fun e w' => e = .returned (.string t) ∧ Below w.heap.size w w' := by
  have H := H.out
  unfold headB at H
  cases hr : rightB f k s with
  | false =>
    rw [hr] at H
    obtain rfl : (⟨#[]⟩ : ByteArray) = t := H
    have kr := right_is f k s false w (Lib.hid hr)
    clear H hr
    go_enter Tryz.func15, Tryz.ntmps15
    go_wp2_with (go_at_call 43; (with_reducible refine kr.mono ?_); rintro e w1 ⟨rfl, hB1⟩; clear kr)
    go_ret
    exact ⟨rfl, hB1⟩
  | true =>
    rw [hr, if_pos rfl] at H
    have kr := right_is f k s true w (Lib.hid hr)
    have hb : 1 ≤ f ∧ f ≤ 1099511627776 := by
      unfold rightB at hr
      simp at hr
      exact ⟨hr.1, hr.2.1⟩
    have hbl := bodyH_len f k s hb.2 hs
    obtain ⟨n, rfl⟩ : ∃ n : Nat, f = (n : Int) := ⟨f.toNat, by omega⟩
    have hwn : IntKind.u64.wrap (n : Int) = (n : Int) := by rw [IntKind.wrap_u64]; omega
    obtain ⟨p, hp⟩ : ∃ p, tx (enc n) = p := ⟨_, rfl⟩
    obtain ⟨q, hq⟩ : ∃ q, ahead s = q := ⟨_, rfl⟩
    have kp := fun w => put_is n p w (by omega) (Lib.hid hp)
    have kq := fun w => text_is s q w (by omega) (Lib.hid hq)
    have hpz : p.size ≤ 10 := by rw [← hp, tx_size]; exact enc_len10 n (by omega)
    have hqz : q.size ≤ 60010 := by
      rw [← hq]
      unfold ahead
      rw [tx_size, List.length_append]
      have h2 := enc_len10 s.size (by omega)
      have h3 : s.data.toList.length = s.size := by simp
      omega
    have hcat : ∀ c : UInt8, p ++ (⟨#[c]⟩ : ByteArray) ++ q = tx (enc n ++ (c :: (enc s.size ++ s.data.toList))) := fun c => by
      rw [← hp, ← hq]
      unfold ahead
      rw [show (⟨#[c]⟩ : ByteArray) = tx [c] from rfl, tx_app, tx_app]
      simp
    cases k with
    | true =>
      obtain ⟨x, hx⟩ : ∃ x, p ++ (⟨#[1]⟩ : ByteArray) ++ q = x := ⟨_, rfl⟩
      have hxt : x = tx (bodyH (n : Int) true s) := by rw [← hx, hcat]; rfl
      have hxs : x.size ≤ 70000 := by rw [hxt, tx_size]; omega
      have hz1 : p.size + (⟨#[1]⟩ : ByteArray).size ≤ 9223372036854775807 := by show p.size + 1 ≤ _; omega
      have hz2 : (p ++ (⟨#[1]⟩ : ByteArray)).size + q.size ≤ 9223372036854775807 := by rw [ByteArray.size_append]; show p.size + 1 + _ ≤ _; omega
      have kf := fun w ht => put_yes x t w hxs ht (Lib.hid (by rw [hxt, tx_data]; exact H))
      clear hr hb hbl hp hq hcat H hxt hf0
      go_enter Tryz.func15, Tryz.ntmps15
      go_wp2_with (first
        | (go_at_call 43; (with_reducible refine kr.mono ?_); rintro e w1 ⟨rfl, hB1⟩; (have HB1 := Lib.hid hB1); clear kr hB1)
        | (go_at_call 45; (with_reducible refine (kp _).mono ?_); rintro e w2 ⟨rfl, hB2⟩; (have HB2 := Lib.hid (bel_next HB1.out hB2)); clear kp hB2)
        | (go_at_call 46; (with_reducible refine (kq _).mono ?_); rintro e w3 ⟨rfl, hB3⟩; (have HB3 := Lib.hid (bel_next HB2.out hB3)); clear kq hB3)
        | (go_at_call 44; (with_reducible refine (kf _ (G.below HB3.out).tab).mono ?_); rintro e w4 ⟨rfl, hB4⟩; (have HB4 := Lib.hid (bel_next HB3.out hB4)); clear kf hB4))
      go_ret
      exact ⟨rfl, HB4.out⟩
    | false =>
      obtain ⟨x, hx⟩ : ∃ x, p ++ (⟨#[0]⟩ : ByteArray) ++ q = x := ⟨_, rfl⟩
      have hxt : x = tx (bodyH (n : Int) false s) := by rw [← hx, hcat]; rfl
      have hxs : x.size ≤ 70000 := by rw [hxt, tx_size]; omega
      have hz1 : p.size + (⟨#[0]⟩ : ByteArray).size ≤ 9223372036854775807 := by show p.size + 1 ≤ _; omega
      have hz2 : (p ++ (⟨#[0]⟩ : ByteArray)).size + q.size ≤ 9223372036854775807 := by rw [ByteArray.size_append]; show p.size + 1 + _ ≤ _; omega
      have kf := fun w ht => put_yes x t w hxs ht (Lib.hid (by rw [hxt, tx_data]; exact H))
      clear hr hb hbl hp hq hcat H hxt hf0
      go_enter Tryz.func15, Tryz.ntmps15
      go_wp2_with (first
        | (go_at_call 43; (with_reducible refine kr.mono ?_); rintro e w1 ⟨rfl, hB1⟩; (have HB1 := Lib.hid hB1); clear kr hB1)
        | (go_at_call 45; (with_reducible refine (kp _).mono ?_); rintro e w2 ⟨rfl, hB2⟩; (have HB2 := Lib.hid (bel_next HB1.out hB2)); clear kp hB2)
        | (go_at_call 46; (with_reducible refine (kq _).mono ?_); rintro e w3 ⟨rfl, hB3⟩; (have HB3 := Lib.hid (bel_next HB2.out hB3)); clear kq hB3)
        | (go_at_call 44; (with_reducible refine (kf _ (G.below HB3.out).tab).mono ?_); rintro e w4 ⟨rfl, hB4⟩; (have HB4 := Lib.hid (bel_next HB3.out hB4)); clear kf hB4))
      go_ret
      exact ⟨rfl, HB4.out⟩
/-- What a body says as a head: the first record's number, whether it keeps a state, the state, and whether it is a head. -/
def hdQ (body : ByteArray) : Int × Bool × ByteArray × Bool :=
  let x := smallQ body false 1099511627776
  let y := smallQ x.2.1 x.2.2 1
  let z := textQ y.2.1 y.2.2
  (x.1, y.1 == 1, z.1, (endQ z.2.1 z.2.2 == 0) && rightB x.1 (y.1 == 1) z.1)
structure HdS (w0 : World) (q rd d : Nat) (r : ByteArray) (br : Bool) (x : Int) (k : Bool) (z : ByteArray) (w : World) : Prop where
  hh : ∃ a0 a1 a2, w.heap[q]? = some (.cells #[a0, a1, a2] 71)
  hd : w.heap[d]? = some (.cells #[.int .i64 x, .bool k, .string z] 71)
  ra : RA w rd r br
  bel : Below w0.heap.size w0 w
  qd : q < rd ∧ rd < d ∧ w0.heap.size ≤ q
section
variable {w0 w w' : World} {q rd d : Nat} {r : ByteArray} {br : Bool} {x : Int} {k : Bool} {z : ByteArray}
theorem HdS.below (h : HdS w0 q rd d r br x k z w) (b : Below w.heap.size w w') : HdS w0 q rd d r br x k z w' := by
  obtain ⟨⟨a0, a1, a2, e⟩, h2, h3, h4, h5⟩ := h
  exact ⟨⟨a0, a1, a2, (b.block _ (some_lt e)).trans e⟩, (b.block _ (some_lt h2)).trans h2, h3.below b, bel_next h4 b, h5⟩
theorem HdS.set (h : HdS w0 q rd d r br x k z w) (j : Nat) (v : Value) (hj : j < 3) : HdS w0 q rd d r br x k z (w.setCell ⟨q, j, none⟩ v) := by
  obtain ⟨⟨a0, a1, a2, e⟩, h2, h3, h4, h5⟩ := h
  have ho : ∀ i, i ≠ q → (w.setCell ⟨q, j, none⟩ v).heap[i]? = w.heap[i]? := fun i hi => heap_setCell_other w ⟨q, j, none⟩ i v hi
  have hB : But q w (w.setCell ⟨q, j, none⟩ v) := (But.refl q w).setCell j v
  refine ⟨?_, (ho _ (by omega)).trans h2, h3.but hB (by omega), h4.trans (hB.below (by omega) h4.size), h5⟩
  have := heap_setCell_same w q j _ _ v e
  match j, hj with
  | 0, _ => exact ⟨_, _, _, this⟩
  | 1, _ => exact ⟨_, _, _, this⟩
  | 2, _ => exact ⟨_, _, _, this⟩
theorem HdS.cq (h : HdS w0 q rd d r br x k z w) : ∃ a0 a1 a2, (w.cell? ⟨q, 0, none⟩ = some a0 ∧ w.cell? ⟨q, 1, none⟩ = some a1 ∧ w.cell? ⟨q, 2, none⟩ = some a2) ∧ ∀ j, w.frozen? ⟨q, j, none⟩ = false := by
  obtain ⟨⟨a0, a1, a2, e⟩, -⟩ := h
  exact ⟨a0, a1, a2, ⟨cell_of e, cell_of e, cell_of e⟩, fun j => frozen_of e⟩
theorem infoHd : (Tryz.prog.info? 71).map (·.size) = some 3 := by kernel_rfl
theorem results_hd {fn : Func} {p q : Tmp} (h : fn.results = #[.cell p 71, .tmp q]) (tmps : Array Value) (w : World) (b : Nat) (x : Int) (k : Bool) (z : ByteArray) (v : Value) (hp : tmps.getD p undef = .pointer (some ⟨b, 0, none⟩)) (hq : tmps.getD q undef = v) (hb : w.heap[b]? = some (.cells #[.int .i64 x, .bool k, .string z] 71)) :
    (results fn tmps).run Tryz.prog w = .ok (.tuple #[.agg #[.int .i64 x, .bool k, .string z], v]) w := by
  have hp2 : tmps[p]?.getD undef = .pointer (some ⟨b, 0, none⟩) := by simpa using hp
  have hq2 : tmps[q]?.getD undef = v := by simpa using hq
  have hr : w.rangeAt b 0 [.int .i64 x, .bool k, .string z] := by
    intro j v hj
    rw [Nat.zero_add, cell_of hb]
    match j, hj with
    | 0, hj => exact hj
    | 1, hj => exact hj
    | 2, hj => exact hj
  have hl := run_loadVar_mid (P := Tryz.prog) w b 0 71 [.int .i64 x, .bool k, .string z] _ hr Tryz.underlying71 rfl infoHd
  simp [results, h, hp2, hq2, asAddr, hl]
theorem HdS.cd (h : HdS w0 q rd d r br x k z w) : w.cell? ⟨d, 0, none⟩ = some (.int .i64 x) ∧ w.cell? ⟨d, 1, none⟩ = some (.bool k) ∧ w.cell? ⟨d, 2, none⟩ = some (.string z) := ⟨cell_of h.hd, cell_of h.hd, cell_of h.hd⟩
end
theorem But.belowb {b : Nat} {w w' : World} (h : But b w w') (hb : w.heap.size ≤ b) : ∀ B, B ≤ w.heap.size → Below B w w' := fun B hB => ⟨h.os, h.tape, h.output, h.size, fun k hk => h.block k (by omega) (by omega)⟩
set_option maxHeartbeats 8000000 in
theorem headerOf_is (body : ByteArray) (f : Int) (k : Bool) (s : ByteArray) (o : Bool) (w : World) (hz : body.size ≤ 70000) (H : Hid (hdQ body = (f, k, s, o))) : Calls Tryz.prog 98 #[.string body] w fun e w' => e = .returned (.tuple #[.agg #[.int .i64 f, .bool k, .string s], .bool o]) ∧ Below w.heap.size w w' := by
  have HQ := H.out
  clear H
  unfold hdQ at HQ
  obtain ⟨⟨x, r1, b1⟩, h1⟩ : ∃ q, smallQ body false 1099511627776 = q := ⟨_, rfl⟩
  obtain ⟨⟨y, r2, b2⟩, h2⟩ : ∃ q, smallQ r1 b1 1 = q := ⟨_, rfl⟩
  obtain ⟨⟨z, r3, b3⟩, h3⟩ : ∃ q, textQ r2 b2 = q := ⟨_, rfl⟩
  obtain ⟨e, h4⟩ : ∃ q, endQ r3 b3 = q := ⟨_, rfl⟩
  rw [h1] at HQ
  dsimp only at HQ
  rw [h2] at HQ
  dsimp only at HQ
  rw [h3] at HQ
  dsimp only at HQ
  rw [h4] at HQ
  rw [Prod.mk.injEq, Prod.mk.injEq, Prod.mk.injEq] at HQ
  obtain ⟨hxf, hk, hzs, HQ⟩ := HQ
  subst hxf hzs
  have z1 := smallQ_size h1
  have z2 := smallQ_size h2
  have z3 := textQ_size h3
  have K1 := fun b w h => small_is b body r1 false b1 x 1099511627776 w (by unfold maxLen; omega) (by omega) (Lib.hid h1) h
  have K2 := fun b w h => small_is b r1 r2 b1 b2 y 1 w (by unfold maxLen; omega) (by omega) (Lib.hid h2) h
  have K3 := fun b w h => text_is' b r2 r3 b2 b3 z w (by omega) (Lib.hid h3) h
  have K4 := fun b w h => end_is b r3 b3 e w h (Lib.hid h4)
  rw [hk] at HQ
  have kR := fun w => read_is body w
  have hkk : (y == 1) = k := hk
  clear h1 h2 h3 h4 z1 z2 z3 hk
  by_cases he : e = 0
  · subst he
    have hro : rightB x k z = o := by simpa using HQ
    have K5 := fun w => right_is x k z o w (Lib.hid hro)
    clear HQ hro
    go_enter Tryz.func98, Tryz.ntmps98
    have hza : (w.alloc (.cells #[.int .i64 0, .bool false, .string ⟨#[]⟩] 71)).heap.size = w.heap.size + 1 := by simp
    have hal : w.heap.size < (w.alloc (.cells #[.int .i64 0, .bool false, .string ⟨#[]⟩] 71)).heap.size := by simp
    go_upto_region 3 with (first
      | (go_at_call 120; (with_reducible refine (kR _).mono ?_); rintro _ w1 ⟨rfl, hR1, hB1, hlt1⟩; (have hh : w1.heap[w.heap.size]? = some (.cells #[.int .i64 0, .bool false, .string ⟨#[]⟩] 71) := (hB1.block _ hal).trans (heap_alloc_new w _)); (have HH1 := Lib.hid hh); (rw [hza] at hR1); (have HR1 := Lib.hid hR1); (have HB1 := Lib.hid (bel_next (bel_al w _) hB1)); clear hh hR1 hB1 hlt1 kR)
      | (go_at_call 121; (with_reducible refine (K1 _ _ HR1.out).mono ?_); rintro _ w2 ⟨rfl, hR2, hB2⟩; (have HH2 := Lib.hid ((hB2.block w.heap.size (some_lt HH1.out) (by omega)).trans HH1.out)); (have HR2 := Lib.hid hR2); (have HB2 := Lib.hid (HB1.out.trans (hB2.below (by omega) HB1.out.size))); clear hR2 hB2 K1)
      | (go_at_call 121; (with_reducible refine (K2 _ _ HR2.out).mono ?_); rintro _ w3 ⟨rfl, hR3, hB3⟩; (have HH3 := Lib.hid ((hB3.block w.heap.size (some_lt HH2.out) (by omega)).trans HH2.out)); (have HR3 := Lib.hid hR3); (have HB3 := Lib.hid (HB2.out.trans (hB3.below (by omega) HB2.out.size))); clear hR3 hB3 K2)
      | (go_at_call 122; (with_reducible refine (K3 _ _ HR3.out).mono ?_); rintro _ w4 ⟨rfl, hR4, hB4⟩; (have HH4 := Lib.hid ((hB4.block w.heap.size (some_lt HH3.out) (by omega)).trans HH3.out)); (have HR4 := Lib.hid hR4); (have HB4 := Lib.hid (HB3.out.trans (hB4.below (by omega) HB3.out.size))); clear hR4 hB4 K3))
    have hHS : HdS w w.heap.size (w.heap.size + 1) w4.heap.size r3 b3 x k z (w4.alloc (.cells #[.int .i64 x, .bool k, .string z] 71)) := by
      have hal4 := bel_al w4 (.cells #[.int .i64 x, .bool k, .string z] 71)
      exact ⟨⟨_, _, _, (hal4.block _ (some_lt HH4.out)).trans HH4.out⟩, heap_alloc_new w4 _, HR4.out.below hal4, bel_next HB4.out hal4, by omega, HR4.out.room, Nat.le_refl _⟩
    have HS := Lib.hid hHS
    clear hHS HH1 HH2 HH3 HH4 HR1 HR2 HR3 HR4 HB1 HB2 HB3 HB4
    obtain ⟨d, hd⟩ : ∃ d, w4.heap.size = d := ⟨_, rfl⟩
    rw [hd] at HS
    simp only [hd]
    obtain ⟨W, hW⟩ : ∃ W, w4.alloc (.cells #[.int .i64 x, .bool k, .string z] 71) = W := ⟨_, rfl⟩
    rw [hW] at HS
    simp only [hW]
    clear hd hW
    refine wp_region_held_drew (S := (HdS w w.heap.size (w.heap.size + 1) d r3 b3 x k z)) (by kernel_rfl) (HS.out.below (Below.refl _ _).drew) (fun hHeld => ?_)
    refine wpAnyH_take (i := 0) (oi := ?oa1o) (v := ?oa1v) ?oa1h (by kernel_rfl) (by kernel_rfl) (by kernel_rfl) ?oa1q ?oa1y hHeld ?oa1r
    case oa1h => (simp only [List.getElem?_toArray, List.getElem?_cons_zero]; rfl)
    case oa1q => exact fun _ _ _ h => h
    case oa1y => (refine Or.inl ⟨by first | kernel_rfl | rfl, ?_⟩; intro w hSw; (try dsimp only at hSw); (obtain ⟨z1, z2, z3⟩ := hSw.cd); go_simp <;> (try with_reducible rfl))
    try simp only [Act.put, List.setIfInBounds_toArray, List.set_cons_zero, List.set_cons_succ]
    refine wpAnyH_take (i := 1) (oi := ?oa2o) (v := ?oa2v) ?oa2h (by kernel_rfl) (by kernel_rfl) (by kernel_rfl) ?oa2q ?oa2y hHeld ?oa2r
    case oa2h => (simp only [List.getElem?_toArray, List.getElem?_cons_succ, List.getElem?_cons_zero]; rfl)
    case oa2q => exact fun _ _ _ h => h
    case oa2y => (refine Or.inl ⟨by first | kernel_rfl | rfl, ?_⟩; intro w hSw; (try dsimp only at hSw); (obtain ⟨z1, z2, z3⟩ := hSw.cd); go_simp <;> (try with_reducible rfl))
    try simp only [Act.put, List.setIfInBounds_toArray, List.set_cons_zero, List.set_cons_succ]
    refine wpAnyH_ready (rs := [2]) (by kernel_rfl) (by simp) ?_
    refine (AllReadyH.cons rfl (fun K hK => ?_) AllReadyH.nil)
    go_simp
    (go_at_call 123; (with_reducible refine (K4 _ _ hHeld.ra).mono ?_); rintro _ w5 ⟨rfl, rfl⟩)
    refine hK.out _ _ (hHeld) (fun hHeld => ?_)
    clear hK K
    try simp only [Act.put, List.setIfInBounds_toArray, List.set_cons_zero, List.set_cons_succ]
    refine wpAnyH_take (i := 3) (oi := ?oa3o) (v := ?oa3v) ?oa3h (by kernel_rfl) (by kernel_rfl) (by kernel_rfl) ?oa3q ?oa3y hHeld ?oa3r
    case oa3h => (simp only [List.getElem?_toArray, List.getElem?_cons_succ, List.getElem?_cons_zero]; rfl)
    case oa3q => exact fun _ _ _ h => h
    case oa3y => (refine Or.inl ⟨by first | kernel_rfl | rfl, ?_⟩; intro w hSw; (try dsimp only at hSw); (obtain ⟨z1, z2, z3⟩ := hSw.cd); go_simp <;> (try with_reducible rfl))
    try simp only [Act.put, List.setIfInBounds_toArray, List.set_cons_zero, List.set_cons_succ]
    refine wpAnyH_take (i := 4) (oi := ?oa4o) (v := ?oa4v) ?oa4h (by kernel_rfl) (by kernel_rfl) (by kernel_rfl) ?oa4q ?oa4y hHeld ?oa4r
    case oa4h => (simp only [List.getElem?_toArray, List.getElem?_cons_succ, List.getElem?_cons_zero]; rfl)
    case oa4q => exact fun _ _ _ h => h
    case oa4y => (refine Or.inl ⟨by first | kernel_rfl | rfl, ?_⟩; intro w hSw; (try dsimp only at hSw); (obtain ⟨z1, z2, z3⟩ := hSw.cd); go_simp <;> (try with_reducible rfl))
    try simp only [Act.put, List.setIfInBounds_toArray, List.set_cons_zero, List.set_cons_succ]
    refine wpAnyH_take (i := 5) (oi := ?oa5o) (v := ?oa5v) ?oa5h (by kernel_rfl) (by kernel_rfl) (by kernel_rfl) ?oa5q ?oa5y hHeld ?oa5r
    case oa5h => (simp only [List.getElem?_toArray, List.getElem?_cons_succ, List.getElem?_cons_zero]; rfl)
    case oa5q => exact fun _ _ _ h => h
    case oa5y => (refine Or.inl ⟨by first | kernel_rfl | rfl, ?_⟩; intro w hSw; (try dsimp only at hSw); (obtain ⟨z1, z2, z3⟩ := hSw.cd); go_simp <;> (try with_reducible rfl))
    try simp only [Act.put, List.setIfInBounds_toArray, List.set_cons_zero, List.set_cons_succ]
    refine wpAnyH_ready (rs := [6]) (by kernel_rfl) (by simp) ?_
    refine (AllReadyH.cons rfl (fun K hK => ?_) AllReadyH.nil)
    go_simp
    (go_at_call 43; (with_reducible refine (K5 _).mono ?_); rintro _ w6 ⟨rfl, hB6⟩)
    refine hK.out _ _ (hHeld.below hB6) (fun hHeld => ?_)
    clear hK K
    try simp only [Act.put, List.setIfInBounds_toArray, List.set_cons_zero, List.set_cons_succ]
    refine wpAnyH_take (i := 7) (oi := ?oa6o) (v := ?oa6v) ?oa6h (by kernel_rfl) (by kernel_rfl) (by kernel_rfl) ?oa6q ?oa6y hHeld ?oa6r
    case oa6h => (simp only [List.getElem?_toArray, List.getElem?_cons_succ, List.getElem?_cons_zero]; rfl)
    case oa6q => exact fun _ _ _ h => h
    case oa6y => (refine Or.inl ⟨by first | kernel_rfl | rfl, ?_⟩; intro w hSw; (try dsimp only at hSw); (obtain ⟨z1, z2, z3⟩ := hSw.cd); go_simp <;> (try with_reducible rfl))
    try simp only [Act.put, List.setIfInBounds_toArray, List.set_cons_zero, List.set_cons_succ]
    refine wpAnyH_ready (rs := [8]) (by kernel_rfl) (by simp) ?_
    refine (AllReadyH.cons rfl (fun K hK => ?_) AllReadyH.nil)
    go_simp
    (have HQ := hHeld); (obtain ⟨a0, a1, a2, ⟨y0, y1, y2⟩, yf⟩ := hHeld.cq; (have f0 := yf 0); (have f1 := yf 1); (have f2 := yf 2); go_simp)
    refine hK.out _ _ (((hHeld.set 0 _ (by omega)).set 1 _ (by omega)).set 2 _ (by omega)) (fun hHeld => ?_)
    clear hK K
    try simp only [Act.put]
    refine wpAnyH_take (i := 9) (oi := ?oa7o) (v := ?oa7v) ?oa7h (by kernel_rfl) (by kernel_rfl) (by kernel_rfl) ?oa7q ?oa7y hHeld ?oa7r
    case oa7h => (simp only [List.getElem?_toArray, List.getElem?_cons_succ, List.getElem?_cons_zero]; rfl)
    case oa7q => exact fun _ _ _ h => h
    case oa7y => (refine Or.inl ⟨by first | kernel_rfl | rfl, ?_⟩; intro w hSw; (try dsimp only at hSw); (obtain ⟨z1, z2, z3⟩ := hSw.cd); go_simp <;> (try with_reducible rfl))
    try simp only [Act.put, List.setIfInBounds_toArray, List.set_cons_zero, List.set_cons_succ]
    refine wpAnyH_done (by kernel_rfl) ?_ _
    obtain ⟨⟨b0, b1, b2, eq⟩, -⟩ := HQ
    have hfin := heap_setCell_same _ w.heap.size 2 _ _ (.string z) (heap_setCell_same _ w.heap.size 1 _ _ (.bool k) (heap_setCell_same _ w.heap.size 0 _ _ (.int .i64 x) eq))
    go_wp2
    refine bodyPost_ret (v := .tuple #[.agg #[.int .i64 x, .bool k, .string z], .bool o]) (results_hd Tryz.results98 _ _ w.heap.size x k z _ rfl rfl hfin) rfl ⟨rfl, hHeld.bel⟩
  · have hef : (e == 0) = false := by simpa using he
    obtain rfl : false = o := by rw [← HQ, hef]; rfl
    clear HQ he
    go_enter Tryz.func98, Tryz.ntmps98
    have hza : (w.alloc (.cells #[.int .i64 0, .bool false, .string ⟨#[]⟩] 71)).heap.size = w.heap.size + 1 := by simp
    have hal : w.heap.size < (w.alloc (.cells #[.int .i64 0, .bool false, .string ⟨#[]⟩] 71)).heap.size := by simp
    go_upto_region 3 with (first
      | (go_at_call 120; (with_reducible refine (kR _).mono ?_); rintro _ w1 ⟨rfl, hR1, hB1, hlt1⟩; (have hh : w1.heap[w.heap.size]? = some (.cells #[.int .i64 0, .bool false, .string ⟨#[]⟩] 71) := (hB1.block _ hal).trans (heap_alloc_new w _)); (have HH1 := Lib.hid hh); (rw [hza] at hR1); (have HR1 := Lib.hid hR1); (have HB1 := Lib.hid (bel_next (bel_al w _) hB1)); clear hh hR1 hB1 hlt1 kR)
      | (go_at_call 121; (with_reducible refine (K1 _ _ HR1.out).mono ?_); rintro _ w2 ⟨rfl, hR2, hB2⟩; (have HH2 := Lib.hid ((hB2.block w.heap.size (some_lt HH1.out) (by omega)).trans HH1.out)); (have HR2 := Lib.hid hR2); (have HB2 := Lib.hid (HB1.out.trans (hB2.below (by omega) HB1.out.size))); clear hR2 hB2 K1)
      | (go_at_call 121; (with_reducible refine (K2 _ _ HR2.out).mono ?_); rintro _ w3 ⟨rfl, hR3, hB3⟩; (have HH3 := Lib.hid ((hB3.block w.heap.size (some_lt HH2.out) (by omega)).trans HH2.out)); (have HR3 := Lib.hid hR3); (have HB3 := Lib.hid (HB2.out.trans (hB3.below (by omega) HB2.out.size))); clear hR3 hB3 K2)
      | (go_at_call 122; (with_reducible refine (K3 _ _ HR3.out).mono ?_); rintro _ w4 ⟨rfl, hR4, hB4⟩; (have HH4 := Lib.hid ((hB4.block w.heap.size (some_lt HH3.out) (by omega)).trans HH3.out)); (have HR4 := Lib.hid hR4); (have HB4 := Lib.hid (HB3.out.trans (hB4.below (by omega) HB3.out.size))); clear hR4 hB4 K3))
    have hHS : HdS w w.heap.size (w.heap.size + 1) w4.heap.size r3 b3 x k z (w4.alloc (.cells #[.int .i64 x, .bool k, .string z] 71)) := by
      have hal4 := bel_al w4 (.cells #[.int .i64 x, .bool k, .string z] 71)
      exact ⟨⟨_, _, _, (hal4.block _ (some_lt HH4.out)).trans HH4.out⟩, heap_alloc_new w4 _, HR4.out.below hal4, bel_next HB4.out hal4, by omega, HR4.out.room, Nat.le_refl _⟩
    have HS := Lib.hid hHS
    clear hHS HH1 HH2 HH3 HH4 HR1 HR2 HR3 HR4 HB1 HB2 HB3 HB4
    obtain ⟨d, hd⟩ : ∃ d, w4.heap.size = d := ⟨_, rfl⟩
    rw [hd] at HS
    simp only [hd]
    obtain ⟨W, hW⟩ : ∃ W, w4.alloc (.cells #[.int .i64 x, .bool k, .string z] 71) = W := ⟨_, rfl⟩
    rw [hW] at HS
    simp only [hW]
    clear hd hW
    refine wp_region_held_drew (S := (HdS w w.heap.size (w.heap.size + 1) d r3 b3 x k z)) (by kernel_rfl) (HS.out.below (Below.refl _ _).drew) (fun hHeld => ?_)
    refine wpAnyH_take (i := 0) (oi := ?ob1o) (v := ?ob1v) ?ob1h (by kernel_rfl) (by kernel_rfl) (by kernel_rfl) ?ob1q ?ob1y hHeld ?ob1r
    case ob1h => (simp only [List.getElem?_toArray, List.getElem?_cons_zero]; rfl)
    case ob1q => exact fun _ _ _ h => h
    case ob1y => (refine Or.inl ⟨by first | kernel_rfl | rfl, ?_⟩; intro w hSw; (try dsimp only at hSw); (obtain ⟨z1, z2, z3⟩ := hSw.cd); go_simp <;> (try with_reducible rfl))
    try simp only [Act.put, List.setIfInBounds_toArray, List.set_cons_zero, List.set_cons_succ]
    refine wpAnyH_take (i := 1) (oi := ?ob2o) (v := ?ob2v) ?ob2h (by kernel_rfl) (by kernel_rfl) (by kernel_rfl) ?ob2q ?ob2y hHeld ?ob2r
    case ob2h => (simp only [List.getElem?_toArray, List.getElem?_cons_succ, List.getElem?_cons_zero]; rfl)
    case ob2q => exact fun _ _ _ h => h
    case ob2y => (refine Or.inl ⟨by first | kernel_rfl | rfl, ?_⟩; intro w hSw; (try dsimp only at hSw); (obtain ⟨z1, z2, z3⟩ := hSw.cd); go_simp <;> (try with_reducible rfl))
    try simp only [Act.put, List.setIfInBounds_toArray, List.set_cons_zero, List.set_cons_succ]
    refine wpAnyH_ready (rs := [2]) (by kernel_rfl) (by simp) ?_
    refine (AllReadyH.cons rfl (fun K hK => ?_) AllReadyH.nil)
    go_simp
    (go_at_call 123; (with_reducible refine (K4 _ _ hHeld.ra).mono ?_); rintro _ w5 ⟨rfl, rfl⟩)
    refine hK.out _ _ (hHeld) (fun hHeld => ?_)
    clear hK K
    try simp only [Act.put, List.setIfInBounds_toArray, List.set_cons_zero, List.set_cons_succ]
    refine wpAnyH_take (i := 3) (oi := ?ob3o) (v := ?ob3v) ?ob3h (by kernel_rfl) (by kernel_rfl) (by kernel_rfl) ?ob3q ?ob3y hHeld ?ob3r
    case ob3h => (simp only [List.getElem?_toArray, List.getElem?_cons_succ, List.getElem?_cons_zero]; rfl)
    case ob3q => exact fun _ _ _ h => h
    case ob3y => (refine Or.inl ⟨by first | kernel_rfl | rfl, ?_⟩; intro w hSw; (try dsimp only at hSw); (obtain ⟨z1, z2, z3⟩ := hSw.cd); go_simp <;> (try with_reducible rfl))
    try simp only [Act.put, List.setIfInBounds_toArray, List.set_cons_zero, List.set_cons_succ]
    refine wpAnyH_take (i := 4) (oi := ?ob4o) (v := ?ob4v) ?ob4h (by kernel_rfl) (by kernel_rfl) (by kernel_rfl) ?ob4q ?ob4y hHeld ?ob4r
    case ob4h => (simp only [List.getElem?_toArray, List.getElem?_cons_succ, List.getElem?_cons_zero]; rfl)
    case ob4q => exact fun _ _ _ h => h
    case ob4y => (refine Or.inl ⟨by first | kernel_rfl | rfl, ?_⟩; intro w hSw; (try dsimp only at hSw); (obtain ⟨z1, z2, z3⟩ := hSw.cd); go_simp <;> (try with_reducible rfl))
    try simp only [Act.put, List.setIfInBounds_toArray, List.set_cons_zero, List.set_cons_succ]
    refine wpAnyH_take (i := 5) (oi := ?ob5o) (v := undef) ?ob5h (by kernel_rfl) (by kernel_rfl) (by kernel_rfl) ?ob5q ?ob5y hHeld ?ob5r
    case ob5h => (simp only [List.getElem?_toArray, List.getElem?_cons_succ, List.getElem?_cons_zero]; rfl)
    case ob5q => exact fun _ _ _ h => h
    case ob5y => exact Or.inr ⟨by first | kernel_rfl | rfl, rfl⟩
    try simp only [Act.put, List.setIfInBounds_toArray, List.set_cons_zero, List.set_cons_succ]
    refine wpAnyH_take (i := 6) (oi := ?ob6o) (v := undef) ?ob6h (by kernel_rfl) (by kernel_rfl) (by kernel_rfl) ?ob6q ?ob6y hHeld ?ob6r
    case ob6h => (simp only [List.getElem?_toArray, List.getElem?_cons_succ, List.getElem?_cons_zero]; rfl)
    case ob6q => exact fun _ _ _ h => h
    case ob6y => exact Or.inr ⟨by first | kernel_rfl | rfl, rfl⟩
    try simp only [Act.put, List.setIfInBounds_toArray, List.set_cons_zero, List.set_cons_succ]
    refine wpAnyH_take (i := 7) (oi := ?ob7o) (v := ?ob7v) ?ob7h (by kernel_rfl) (by kernel_rfl) (by kernel_rfl) ?ob7q ?ob7y hHeld ?ob7r
    case ob7h => (simp only [List.getElem?_toArray, List.getElem?_cons_succ, List.getElem?_cons_zero]; rfl)
    case ob7q => exact fun _ _ _ h => h
    case ob7y => (refine Or.inl ⟨by first | kernel_rfl | rfl, ?_⟩; intro w hSw; (try dsimp only at hSw); (obtain ⟨z1, z2, z3⟩ := hSw.cd); go_simp <;> (try with_reducible rfl))
    try simp only [Act.put, List.setIfInBounds_toArray, List.set_cons_zero, List.set_cons_succ]
    refine wpAnyH_ready (rs := [8]) (by kernel_rfl) (by simp) ?_
    refine (AllReadyH.cons rfl (fun K hK => ?_) AllReadyH.nil)
    go_simp
    (have HQ := hHeld); (obtain ⟨a0, a1, a2, ⟨y0, y1, y2⟩, yf⟩ := HS.out.cq; (have f0 := yf 0); (have f1 := yf 1); (have f2 := yf 2); go_simp)
    refine hK.out _ _ (((hHeld.set 0 _ (by omega)).set 1 _ (by omega)).set 2 _ (by omega)) (fun hHeld => ?_)
    clear hK K
    try simp only [Act.put]
    refine wpAnyH_take (i := 9) (oi := ?ob8o) (v := ?ob8v) ?ob8h (by kernel_rfl) (by kernel_rfl) (by kernel_rfl) ?ob8q ?ob8y hHeld ?ob8r
    case ob8h => (simp only [List.getElem?_toArray, List.getElem?_cons_succ, List.getElem?_cons_zero]; rfl)
    case ob8q => exact fun _ _ _ h => h
    case ob8y => (refine Or.inl ⟨by first | kernel_rfl | rfl, ?_⟩; intro w hSw; (try dsimp only at hSw); (obtain ⟨z1, z2, z3⟩ := hSw.cd); go_simp <;> (try with_reducible rfl))
    try simp only [Act.put, List.setIfInBounds_toArray, List.set_cons_zero, List.set_cons_succ]
    refine wpAnyH_done (by kernel_rfl) ?_ _
    obtain ⟨⟨b0, b1, b2, eq⟩, -⟩ := HQ
    have hfin := heap_setCell_same _ w.heap.size 2 _ _ (.string z) (heap_setCell_same _ w.heap.size 1 _ _ (.bool k) (heap_setCell_same _ w.heap.size 0 _ _ (.int .i64 x) eq))
    go_wp2
    refine bodyPost_ret (v := .tuple #[.agg #[.int .i64 x, .bool k, .string z], .bool false]) (results_hd Tryz.results98 _ _ w.heap.size x k z _ rfl rfl hfin) rfl ⟨rfl, hHeld.bel⟩
end Go.Proofs.YteijmjbiaffcmaaGreatDoor

/- What a log takes in of its directory, as mathematics. -/
set_option maxRecDepth 20000
set_option linter.unusedSimpArgs false
set_option linter.unusedVariables false
namespace Go.Proofs.YteijmjbiaffcmaaGreatDoor
open Go.RowKit Go.Maps Go.Shelf Go.Proofs.YteijmjbiaffcmaaGreatDoor.Vi Go.Proofs.YteijmjbiaffcmaaGreatDoor.Crc Go.Proofs.YteijmjbiaffcmaaGreatDoor.Fr Go.Proofs.YteijmjbiaffcmaaGreatDoor.Fi

theorem numN_nil : numN [] = none := rfl
theorem numN_is {l : List UInt8} {n : Nat} (h : numN l = some n) : l = seg n ∧ 1 ≤ n ∧ n ≤ 99999999 := numN_some h (fun e => by rw [e, numN_nil] at h; cases h)
theorem numsS_in {S : FS} {n : Nat} (h : n ∈ numsS S) : 1 ≤ n ∧ n ≤ 99999999 := by
  unfold numsS numsL at h
  obtain ⟨x, _, hx⟩ := List.mem_filterMap.1 h
  exact (numN_is hx).2
theorem segI_nat {n : Nat} (h : 1 ≤ n ∧ n ≤ 99999999) : segI (n : Int) = seg n := by unfold segI; rw [if_pos (by omega)]; simp
/-- One segment taken in: where the contents begin, and the log. -/
def stepR (T : Nat → ByteArray) (acc : Nat × WS) (n : Nat) : Nat × WS :=
  if (hdQ (tx (getF (T n).data.toList).body)).2.2.2 = false then acc
  else if (hdQ (tx (getF (T n).data.toList).body)).2.1 = true then
    (n, { acc.2 with fi := (hdQ (tx (getF (T n).data.toList).body)).1, st := (hdQ (tx (getF (T n).data.toList).body)).2.2.1, rc := txL (Fr.scan ((T n).data.toList.drop (getF (T n).data.toList).len)).1 })
  else if acc.1 = 0 ∨ (hdQ (tx (getF (T n).data.toList).body)).1 ≠ lastW acc.2 + 1 then acc
  else (acc.1, { acc.2 with rc := acc.2.rc ++ txL (Fr.scan ((T n).data.toList.drop (getF (T n).data.toList).len)).1 })
def textS (S : FS) (n : Nat) : ByteArray := (readS S (tx (seg n))).1
def readN (T : Nat → ByteArray) (l : List Nat) (W : WS) : Nat × WS := l.foldl (stepR T) (0, W)
theorem readN_snoc (T : Nat → ByteArray) (l : List Nat) (W : WS) (i : Nat) (h : i < l.length) : readN T (l.take (i + 1)) W = stepR T (readN T (l.take i) W) l[i] := by
  unfold readN
  rw [List.take_succ_eq_append_getElem h, List.foldl_append]; rfl
theorem scan_count (s : List UInt8) : (Fr.scan s).1.length ≤ s.length := by
  have key : ∀ n (s : List UInt8), s.length ≤ n → (Fr.scan s).1.length ≤ s.length := by
    intro n
    induction n with
    | zero =>
      intro s hs
      have : s = [] := List.eq_nil_of_length_eq_zero (by omega)
      subst this
      rw [scan_nil]; simp
    | succ n ih =>
      intro s hs
      by_cases hw : (getF s).w = 0
      · have hl := getF_len hw
        rw [scan_step hw]
        have := ih (s.drop (getF s).len) (by rw [List.length_drop]; omega)
        rw [List.length_drop] at this
        simp only [List.length_cons]; omega
      · rw [scan_stop hw]; simp
  exact key _ s (Nat.le_refl _)
/-- Bounds of a log that is being taken in: i segments are. -/
structure ReadOk (W0 : WS) (i : Nat) (acc : Nat × WS) : Prop where
  beg : acc.1 ≤ 99999999
  f0 : 0 ≤ acc.2.fi
  f1 : acc.2.fi ≤ 1099511627776
  rc : acc.2.rc.length ≤ 1000000 * i
  sg : acc.2.sg = W0.sg
  fm : acc.2.fm = W0.fm
  br : acc.2.br = W0.br
theorem rightB_in {f : Int} {k : Bool} {s : ByteArray} (h : rightB f k s = true) : 1 ≤ f ∧ f ≤ 1099511627776 := by
  unfold rightB at h
  simp at h
  exact ⟨h.1, h.2.1⟩
theorem hdQ_in {b : ByteArray} (h : (hdQ b).2.2.2 = true) : 1 ≤ (hdQ b).1 ∧ (hdQ b).1 ≤ 1099511627776 := by
  have h2 : ∃ k s, rightB (hdQ b).1 k s = true := by
    unfold hdQ at h ⊢
    simp only [Bool.and_eq_true] at h
    exact ⟨_, _, h.2⟩
  obtain ⟨k, s, h2⟩ := h2
  exact rightB_in h2
theorem ReadOk.step {W0 : WS} {i : Nat} {acc : Nat × WS} (h : ReadOk W0 i acc) (T : Nat → ByteArray) (n : Nat) (hn : n ≤ 99999999) (hT : (T n).size ≤ 1000000) : ReadOk W0 (i + 1) (stepR T acc n) := by
  obtain ⟨h1, h2, h3, h4, h5, h6, h7⟩ := h
  have hl : (txL (Fr.scan ((T n).data.toList.drop (getF (T n).data.toList).len)).1).length ≤ 1000000 := by
    rw [txL_length]
    have a := scan_count ((T n).data.toList.drop (getF (T n).data.toList).len)
    rw [List.length_drop] at a
    have e : (T n).data.toList.length = (T n).size := by simp
    omega
  unfold stepR
  split
  · exact ⟨h1, h2, h3, by omega, h5, h6, h7⟩
  · rename_i hok
    have hin := hdQ_in (by simpa using hok)
    split
    · exact ⟨hn, (by have := hin.1; show 0 ≤ (hdQ (tx (getF (T n).data.toList).body)).1; omega), hin.2, by dsimp only; omega, h5, h6, h7⟩
    · split
      · exact ⟨h1, h2, h3, by omega, h5, h6, h7⟩
      · exact ⟨h1, h2, h3, by dsimp only; rw [List.length_append]; omega, h5, h6, h7⟩
theorem irow_frm {w w' : World} {B b a : Nat} {S : FS} {L : Lay} {W : WS} {v u : Value} {xs : List Int} (h : IRow w B u xs) (hw : WalAt w b S L a W v) (k : Frm (wmods b S L a v) w w') : IRow w' B u xs :=
  Fi.row_of h fun i e => by
    obtain ⟨cur, hh⟩ := Fi.row_heap h e
    refine k.block i (some_lt hh) fun hm => ?_
    rcases hm with hm | rfl | hm
    · exact hw.dir.at_.not hh (by decide) (by decide) (by decide) (by decide) hm
    · rw [hw.cell] at hh
      injection hh with hh
      injection hh with _ hh
      revert hh; decide
    · obtain ⟨c, e1⟩ := hw.rcs.heap hm
      rw [e1] at hh
      injection hh with hh
      injection hh with _ hh
      revert hh; decide
end Go.Proofs.YteijmjbiaffcmaaGreatDoor

/- Contracts: Bytes. -/
import Derived.Test.YtipjhlabcbkgjaaAggCheck
import Derived.Test.YtipjhlabcbkgjaaAggRCheck
import Derived.Test.YtipjhlabcbkgjaaWideD
import Derived.Deep.RegionHeld
set_option maxRecDepth 20000
namespace Go.Proofs.Ytipjhlabcbkgjaa.Ag
open Go.RowKit Go.Proofs.Ytipjhlabcbkgjaa Go.Proofs.Ytipjhlabcbkgjaa.Wd Go.Proofs.Ytipjhlabcbkgjaa.Vi Go.Proofs.Ytipjhlabcbkgjaa.Mk

def wideL (s : Int) : List UInt8 := (List.range 16).map fun i => UInt8.ofNat (dg (wh s) (wl s) i).toNat
def bksL (f : Nat → Int) : Nat → List UInt8
  | 0 => []
  | k + 1 => bksL f k ++ enc (f k).toNat
def headL (a : Ag) : List UInt8 := enc a.n.toNat ++ (wideL a.s ++ encs [a.mn, a.mx, a.la] ++ a.st.bytes)
/-- The bytes of what may be. -/
def bytesA (a : Ag) : List UInt8 := if okA a then (if a.n = 0 then enc 0 else headL a ++ bksL a.b 9) else []
/-- Three numbers in a block. -/
structure SL (W : World) (b : Nat) (x y z : Int) : Prop where
  c0 : W.cell? ⟨b, 0, none⟩ = some (.int .i64 x)
  c1 : W.cell? ⟨b, 1, none⟩ = some (.int .i64 y)
  c2 : W.cell? ⟨b, 2, none⟩ = some (.int .i64 z)
theorem SL.new (W : World) (x y z : Int) (T : TypeId) : SL (W.alloc (.cells #[.int .i64 x, .int .i64 y, .int .i64 z] T)) W.heap.size x y z := by constructor <;> simp [go_sem]
theorem SL.below {W W' : World} {b : Nat} {x y z : Int} (h : SL W b x y z) (k : Below W.heap.size W W') : SL W' b x y z :=
  have hr : b < W.heap.size := World.block_lt_of_cell? W _ h.c0
  ⟨(k.cell (p := ⟨b, 0, none⟩) hr).trans h.c0, (k.cell (p := ⟨b, 1, none⟩) hr).trans h.c1, (k.cell (p := ⟨b, 2, none⟩) hr).trans h.c2⟩
theorem all3_is (b : Nat) (x y z : Int) (S : ByteArray) (w : World) (hx : -9223372036854775808 ≤ x ∧ x ≤ 9223372036854775807) (hy : -9223372036854775808 ≤ y ∧ y ≤ 9223372036854775807) (hz : -9223372036854775808 ≤ z ∧ z ≤ 9223372036854775807) (hs : Hid (tx (encs [x, y, z]) = S)) (h : SL w b x y z) :
    Calls Try.prog 41 #[.slice (some ⟨b, 0, none⟩) 3 3] w (TextDone S w) :=
  all_is b 0 3 [x, y, z] S w (by simp) (fun j hj => by
    match j, hj with
    | 0, _ => exact h.c0
    | 1, _ => exact h.c1
    | 2, _ => exact h.c2) (fun n hn => by simp at hn; rcases hn with rfl | rfl | rfl <;> assumption) hs
theorem rall3_is (b : Nat) (x y z : Int) (S : ByteArray) (w : World) (hx : -9223372036854775808 ≤ x ∧ x ≤ 9223372036854775807) (hy : -9223372036854775808 ≤ y ∧ y ≤ 9223372036854775807) (hz : -9223372036854775808 ≤ z ∧ z ≤ 9223372036854775807) (hs : Hid (tx (encs [x, y, z]) = S)) (h : SL w b x y z) :
    Calls Try.prog 45 #[.slice (some ⟨b, 0, none⟩) 3 3] w (TextDone S w) :=
  refAll_is b 0 3 [x, y, z] S w (by simp) (fun j hj => by
    match j, hj with
    | 0, _ => exact h.c0
    | 1, _ => exact h.c1
    | 2, _ => exact h.c2) (fun n hn => by simp at hn; rcases hn with rfl | rfl | rfl <;> assumption) hs
theorem tx_five (e w l m : List UInt8) : tx e ++ (tx w ++ tx l ++ tx m) = tx (e ++ (w ++ l ++ m)) := by simp only [tx_app]
theorem tx_five' (e w l m : List UInt8) : tx e ++ tx w ++ tx l ++ tx m = tx (e ++ (w ++ l ++ m)) := by simp only [tx_app, List.append_assoc]
theorem right_parts {a : Ag} (h : okA a = true) (hn : a.n ≠ 0) : 1 ≤ a.n ∧ a.n ≤ 1099511627776 ∧ (∀ i, i < 9 → 0 ≤ a.b i ∧ a.b i ≤ a.n) ∧ a.st.ok = true := by
  rcases right_iff.1 h with h | ⟨h1, h2, -, h4, -, -, -, h8⟩
  · exact absurd (same_n h) hn
  · exact ⟨h1, h2, fun i hi => ⟨(h4 i hi).1, (h4 i hi).2.1⟩, h8⟩
theorem wideL_size (s : Int) : (wideB (wh s) (wl s)).size = 16 := by unfold wideB; simp [ByteArray.size]
theorem stB_len {s : St} (h : s.ok = true) : s.bytes.length ≤ 30 := by
  obtain ⟨h1, h2, h3, h4, h5, h6⟩ := St.ok_iff.1 h
  rw [St.bytes_yes h, List.length_append, List.length_append]
  have a1 := enc_len10 s.c.toNat (by omega)
  have a2 := enc_len10 s.s.toNat (by omega)
  have a3 := enc_len10 s.q.toNat (by omega)
  omega
theorem bksL_len (f : Nat → Int) {N : Int} (k : Nat) (h : ∀ i, i < k → 0 ≤ f i ∧ f i ≤ N) (hN : N ≤ 1099511627776) : (bksL f k).length ≤ 10 * k := by
  induction k with
  | zero => simp [bksL]
  | succ k ih =>
    have h1 := ih (fun i hi => h i (by omega))
    have h2 := h k (by omega)
    have h3 := enc_len10 (f k).toNat (by omega)
    show (bksL f k ++ enc (f k).toNat).length ≤ _
    rw [List.length_append]
    omega
theorem enc_zero : enc 0 = [0] := by rw [enc_small (by decide)]; rfl

set_option maxHeartbeats 4000000 in
theorem bytes8_is (a : Ag) (ha : a.fits) (S : ByteArray) (hS : Hid (tx (bytesA a) = S)) (w : World) : Calls Try.prog 21 #[agV a] w fun e w' => e = .returned (.tuple #[.string S, .int .i64 (errA a)]) ∧ Below w.heap.size w w' := by
  have hN := HB.new w a
  simp only [cells18] at hN
  have HN := Lib.hid hN
  obtain ⟨er, her⟩ : ∃ z, errA a = z := ⟨_, rfl⟩
  have kc := fun W => check8_is a ha er (Lib.hid her) W
  rw [her]
  have HER := Lib.hid her
  clear hN her
  rw [show agV a = .agg #[.int .i64 a.n, .int .i64 (wh a.s), .int .u64 (wl a.s), .int .i64 a.mn, .int .i64 a.mx, .int .i64 a.la, .int .i64 a.st.c, .int .i64 a.st.s, .int .i64 a.st.q, .int .i64 (a.b 0), .int .i64 (a.b 1), .int .i64 (a.b 2), .int .i64 (a.b 3), .int .i64 (a.b 4), .int .i64 (a.b 5), .int .i64 (a.b 6), .int .i64 (a.b 7), .int .i64 (a.b 8)] from rfl]
  go_enter Try.func21, Try.ntmps21
  go_upto_region 1 with fail
  obtain ⟨w0, hw0, h0⟩ := HN.out.name
  rw [← hw0]
  have H0 := Lib.hid h0
  clear hw0 h0 HN
  refine wp_region_lit ?_
  refine wpList_plain rfl fun K hK => ?_
  refine load_ag _ rfl w.heap.size a rfl H0.out.a ?_
  refine hK _ _ ?_
  clear hK K
  (try simp only [Act.put, List.setIfInBounds_toArray, List.set_cons_zero, List.set_cons_succ])
  refine wpList_plain rfl fun K hK => ?_
  go_simp
  ((with_reducible refine (kc _).mono ?_); rintro e1 w1 ⟨rfl, hb1⟩)
  refine hK _ _ ?_
  clear hK K
  (try simp only [Act.put, List.setIfInBounds_toArray, List.set_cons_zero, List.set_cons_succ])
  refine wpList_plain rfl fun K hK => ?_
  go_simp
  refine hK _ _ ?_
  clear hK K
  (try simp only [Act.put, List.setIfInBounds_toArray, List.set_cons_zero, List.set_cons_succ])
  refine wpList_nil ?_
  have H1 := Lib.hid (H0.out.keep hb1)
  clear hb1 kc H0
  cases hok : okA a with
  | false =>
    obtain rfl : er = 1 := by rw [← HER.out]; unfold errA; rw [hok]; rfl
    obtain rfl : S = ⟨#[]⟩ := by rw [← hS.out]; unfold bytesA; rw [hok]; rfl
    clear hok hS HER
    go_wp2
    go_ret2
    exact ⟨rfl, H1.out.bel⟩
  | true =>
    obtain rfl : er = 0 := by rw [← HER.out]; unfold errA; rw [hok]; rfl
    have x0 := H1.out.a.cell 0 rfl
    by_cases hn : a.n = 0
    · have hS0 : tx (enc 0) = S := by rw [← hS.out]; unfold bytesA; rw [hok, hn]; rfl
      have kp : ∀ W, Calls Try.prog 39 #[.int .u64 0] W (TextDone S W) := fun W => put_is 0 S W (by decide) (Lib.hid hS0)
      have hnb : (a.n == 0) = true := by simpa using hn
      have hw0 : IntKind.u64.wrap a.n = 0 := by rw [hn]; rfl
      unfold TextDone at kp
      clear hok hS HER hn hS0
      go_wp2_with (go_at_call 39; (with_reducible refine (kp _).mono ?_); rintro e2 w2 ⟨rfl, hb2⟩; (have H2 := Lib.hid (H1.out.keep hb2)); (have x0b := H2.out.a.cell 0 rfl); clear hb2)
      go_ret2
      exact ⟨rfl, H2.out.bel⟩
    · obtain ⟨n1, n2, hbk, hst⟩ := right_parts hok hn
      obtain ⟨n, hnn⟩ : ∃ n : Nat, a.n = (n : Int) := ⟨a.n.toNat, by omega⟩
      have hnb : (a.n == 0) = false := by simpa using hn
      have hwn : IntKind.u64.wrap a.n = (n : Int) := by rw [IntKind.wrap_u64]; omega
      have hS2 : tx (headL a ++ bksL a.b 9) = S := by rw [← hS.out]; unfold bytesA; rw [hok, if_neg hn]; rfl
      have HS := Lib.hid hS2
      obtain ⟨E, hE⟩ : ∃ E, tx (enc n) = E := ⟨_, rfl⟩
      obtain ⟨WB, hWB⟩ : ∃ E, wideB (wh a.s) (wl a.s) = E := ⟨_, rfl⟩
      obtain ⟨AB, hAB⟩ : ∃ E, tx (encs [a.mn, a.mx, a.la]) = E := ⟨_, rfl⟩
      obtain ⟨MB, hMB⟩ : ∃ E, tx a.st.bytes = E := ⟨_, rfl⟩
      have zE : E.size ≤ 10 := by rw [← hE, tx_size]; exact enc_len10 _ (by omega)
      have zW : WB.size = 16 := by rw [← hWB]; exact wideL_size a.s
      have zA : AB.size ≤ 30 := by
        rw [← hAB, tx_size]
        exact encs_len [a.mn, a.mx, a.la] (fun n hn => by simp at hn; rcases hn with rfl | rfl | rfl; exact ha.mn; exact ha.mx; exact ha.la)
      have zM : MB.size ≤ 30 := by rw [← hMB, tx_size]; exact stB_len hst
      obtain ⟨X1, hX1⟩ : ∃ x, WB ++ AB = x := ⟨_, rfl⟩
      have zX1 : X1.size = WB.size + AB.size := by rw [← hX1]; simp
      have qX1 : ¬ 9223372036854775807 < WB.size + AB.size := by omega
      obtain ⟨X2, hX2⟩ : ∃ x, X1 ++ MB = x := ⟨_, rfl⟩
      have zX2 : X2.size = X1.size + MB.size := by rw [← hX2]; simp
      have qX2 : ¬ 9223372036854775807 < X1.size + MB.size := by omega
      obtain ⟨X3, hX3⟩ : ∃ x, E ++ X2 = x := ⟨_, rfl⟩
      have zX3 : X3.size = E.size + X2.size := by rw [← hX3]; simp
      have qX3 : ¬ 9223372036854775807 < E.size + X2.size := by omega
      have HHEAD := Lib.hid (show X3 = tx (headL a) by
        rw [← hX3, ← hX2, ← hX1, ← hE, ← hWB, ← hAB, ← hMB]
        unfold headL
        rw [show a.n.toNat = n by omega]
        exact tx_five (enc n) (wideL a.s) (encs [a.mn, a.mx, a.la]) a.st.bytes)
      have kp := fun W => put_is n E W (by omega) (Lib.hid hE)
      have kB := fun W => wbytes_is (wh a.s) (wl a.s) WB W (Lib.hid hWB)
      have kA := fun b W (h : SL W b a.mn a.mx a.la) => all3_is b a.mn a.mx a.la AB W ha.mn ha.mx ha.la (Lib.hid hAB) h
      have kM := fun W => bytes_is a.st MB W (Lib.hid hMB)
      unfold TextDone at kp kA kM
      have HBK := Lib.hid hbk
      have HN2 := Lib.hid n2
      have HHL := Lib.hid (show (headL a).length ≤ 100 by rw [← tx_size, ← HHEAD.out]; omega)
      clear hok hS hS2 hn hE hWB hAB hMB hst hbk hnn HER zE zW zA zM zX1 zX2 zX3
      go_upto_region 7 with (go_at_call 39; (with_reducible refine (kp _).mono ?_); rintro e2 w2 ⟨rfl, hb2⟩; (have H2 := Lib.hid (H1.out.keep hb2)); (have x0b := H2.out.a.cell 0 rfl); clear hb2)
      clear x0 x0b kp
      refine wp_region_held_drew (S := (HB w a)) (by kernel_rfl) H2.out.drew (fun hHeld => ?_)
      refine wpAnyH_take (i := 0) (oi := ?o1o) (v := ?o1v) ?o1h (by kernel_rfl) (by kernel_rfl) (by kernel_rfl) ?o1q ?o1y hHeld ?o1r
      case o1h => (simp only [List.getElem?_toArray, List.getElem?_cons_zero]; rfl)
      case o1q => exact fun _ _ _ h => h
      case o1y => (refine Or.inl ⟨by first | kernel_rfl | rfl, ?_⟩; intro w hSw; (try dsimp only at hSw); have y1 := hSw.a.cell 1 rfl; have y2 := hSw.a.cell 2 rfl; have y3 := hSw.a.cell 3 rfl; have y4 := hSw.a.cell 4 rfl; have y5 := hSw.a.cell 5 rfl; have y6 := hSw.a.cell 6 rfl; have y7 := hSw.a.cell 7 rfl; have y8 := hSw.a.cell 8 rfl; go_simp <;> (try with_reducible rfl))
      try simp only [Act.put, List.setIfInBounds_toArray, List.set_cons_zero, List.set_cons_succ]
      refine wpAnyH_take (i := 1) (oi := ?o2o) (v := ?o2v) ?o2h (by kernel_rfl) (by kernel_rfl) (by kernel_rfl) ?o2q ?o2y hHeld ?o2r
      case o2h => (simp only [List.getElem?_toArray, List.getElem?_cons_succ, List.getElem?_cons_zero]; rfl)
      case o2q => exact fun _ _ _ h => h
      case o2y => (refine Or.inl ⟨by first | kernel_rfl | rfl, ?_⟩; intro w hSw; (try dsimp only at hSw); have y1 := hSw.a.cell 1 rfl; have y2 := hSw.a.cell 2 rfl; have y3 := hSw.a.cell 3 rfl; have y4 := hSw.a.cell 4 rfl; have y5 := hSw.a.cell 5 rfl; have y6 := hSw.a.cell 6 rfl; have y7 := hSw.a.cell 7 rfl; have y8 := hSw.a.cell 8 rfl; go_simp <;> (try with_reducible rfl))
      try simp only [Act.put, List.setIfInBounds_toArray, List.set_cons_zero, List.set_cons_succ]
      refine wpAnyH_take (i := 2) (oi := ?o3o) (v := ?o3v) ?o3h (by kernel_rfl) (by kernel_rfl) (by kernel_rfl) ?o3q ?o3y hHeld ?o3r
      case o3h => (simp only [List.getElem?_toArray, List.getElem?_cons_succ, List.getElem?_cons_zero]; rfl)
      case o3q => exact fun _ _ _ h => h
      case o3y => (refine Or.inl ⟨by first | kernel_rfl | rfl, ?_⟩; intro w hSw; (try dsimp only at hSw); have y1 := hSw.a.cell 1 rfl; have y2 := hSw.a.cell 2 rfl; have y3 := hSw.a.cell 3 rfl; have y4 := hSw.a.cell 4 rfl; have y5 := hSw.a.cell 5 rfl; have y6 := hSw.a.cell 6 rfl; have y7 := hSw.a.cell 7 rfl; have y8 := hSw.a.cell 8 rfl; go_simp <;> (try with_reducible rfl))
      try simp only [Act.put, List.setIfInBounds_toArray, List.set_cons_zero, List.set_cons_succ]
      refine wpAnyH_take (i := 4) (oi := ?o4o) (v := ?o4v) ?o4h (by kernel_rfl) (by kernel_rfl) (by kernel_rfl) ?o4q ?o4y hHeld ?o4r
      case o4h => (simp only [List.getElem?_toArray, List.getElem?_cons_succ, List.getElem?_cons_zero]; rfl)
      case o4q => exact fun _ _ _ h => h
      case o4y => (refine Or.inl ⟨by first | kernel_rfl | rfl, ?_⟩; intro w hSw; (try dsimp only at hSw); have y1 := hSw.a.cell 1 rfl; have y2 := hSw.a.cell 2 rfl; have y3 := hSw.a.cell 3 rfl; have y4 := hSw.a.cell 4 rfl; have y5 := hSw.a.cell 5 rfl; have y6 := hSw.a.cell 6 rfl; have y7 := hSw.a.cell 7 rfl; have y8 := hSw.a.cell 8 rfl; go_simp <;> (try with_reducible rfl))
      try simp only [Act.put, List.setIfInBounds_toArray, List.set_cons_zero, List.set_cons_succ]
      refine wpAnyH_take (i := 5) (oi := ?o5o) (v := ?o5v) ?o5h (by kernel_rfl) (by kernel_rfl) (by kernel_rfl) ?o5q ?o5y hHeld ?o5r
      case o5h => (simp only [List.getElem?_toArray, List.getElem?_cons_succ, List.getElem?_cons_zero]; rfl)
      case o5q => exact fun _ _ _ h => h
      case o5y => (refine Or.inl ⟨by first | kernel_rfl | rfl, ?_⟩; intro w hSw; (try dsimp only at hSw); have y1 := hSw.a.cell 1 rfl; have y2 := hSw.a.cell 2 rfl; have y3 := hSw.a.cell 3 rfl; have y4 := hSw.a.cell 4 rfl; have y5 := hSw.a.cell 5 rfl; have y6 := hSw.a.cell 6 rfl; have y7 := hSw.a.cell 7 rfl; have y8 := hSw.a.cell 8 rfl; go_simp <;> (try with_reducible rfl))
      try simp only [Act.put, List.setIfInBounds_toArray, List.set_cons_zero, List.set_cons_succ]
      refine wpAnyH_take (i := 6) (oi := ?o6o) (v := ?o6v) ?o6h (by kernel_rfl) (by kernel_rfl) (by kernel_rfl) ?o6q ?o6y hHeld ?o6r
      case o6h => (simp only [List.getElem?_toArray, List.getElem?_cons_succ, List.getElem?_cons_zero]; rfl)
      case o6q => exact fun _ _ _ h => h
      case o6y => (refine Or.inl ⟨by first | kernel_rfl | rfl, ?_⟩; intro w hSw; (try dsimp only at hSw); have y1 := hSw.a.cell 1 rfl; have y2 := hSw.a.cell 2 rfl; have y3 := hSw.a.cell 3 rfl; have y4 := hSw.a.cell 4 rfl; have y5 := hSw.a.cell 5 rfl; have y6 := hSw.a.cell 6 rfl; have y7 := hSw.a.cell 7 rfl; have y8 := hSw.a.cell 8 rfl; go_simp <;> (try with_reducible rfl))
      try simp only [Act.put, List.setIfInBounds_toArray, List.set_cons_zero, List.set_cons_succ]
      refine wpAnyH_take (i := 7) (oi := ?o7o) (v := ?o7v) ?o7h (by kernel_rfl) (by kernel_rfl) (by kernel_rfl) ?o7q ?o7y hHeld ?o7r
      case o7h => (simp only [List.getElem?_toArray, List.getElem?_cons_succ, List.getElem?_cons_zero]; rfl)
      case o7q => exact fun _ _ _ h => h
      case o7y => (refine Or.inl ⟨by first | kernel_rfl | rfl, ?_⟩; intro w hSw; (try dsimp only at hSw); have y1 := hSw.a.cell 1 rfl; have y2 := hSw.a.cell 2 rfl; have y3 := hSw.a.cell 3 rfl; have y4 := hSw.a.cell 4 rfl; have y5 := hSw.a.cell 5 rfl; have y6 := hSw.a.cell 6 rfl; have y7 := hSw.a.cell 7 rfl; have y8 := hSw.a.cell 8 rfl; go_simp <;> (try with_reducible rfl))
      try simp only [Act.put, List.setIfInBounds_toArray, List.set_cons_zero, List.set_cons_succ]
      refine wpAnyH_take (i := 8) (oi := ?o8o) (v := ?o8v) ?o8h (by kernel_rfl) (by kernel_rfl) (by kernel_rfl) ?o8q ?o8y hHeld ?o8r
      case o8h => (simp only [List.getElem?_toArray, List.getElem?_cons_succ, List.getElem?_cons_zero]; rfl)
      case o8q => exact fun _ _ _ h => h
      case o8y => (refine Or.inl ⟨by first | kernel_rfl | rfl, ?_⟩; intro w hSw; (try dsimp only at hSw); have y1 := hSw.a.cell 1 rfl; have y2 := hSw.a.cell 2 rfl; have y3 := hSw.a.cell 3 rfl; have y4 := hSw.a.cell 4 rfl; have y5 := hSw.a.cell 5 rfl; have y6 := hSw.a.cell 6 rfl; have y7 := hSw.a.cell 7 rfl; have y8 := hSw.a.cell 8 rfl; go_simp <;> (try with_reducible rfl))
      try simp only [Act.put, List.setIfInBounds_toArray, List.set_cons_zero, List.set_cons_succ]
      refine wpAnyH_take (i := 9) (oi := ?o9o) (v := ?o9v) ?o9h (by kernel_rfl) (by kernel_rfl) (by kernel_rfl) ?o9q ?o9y hHeld ?o9r
      case o9h => (simp only [List.getElem?_toArray, List.getElem?_cons_succ, List.getElem?_cons_zero]; rfl)
      case o9q => exact fun _ _ _ h => h
      case o9y => (refine Or.inl ⟨by first | kernel_rfl | rfl, ?_⟩; intro w hSw; (try dsimp only at hSw); have y1 := hSw.a.cell 1 rfl; have y2 := hSw.a.cell 2 rfl; have y3 := hSw.a.cell 3 rfl; have y4 := hSw.a.cell 4 rfl; have y5 := hSw.a.cell 5 rfl; have y6 := hSw.a.cell 6 rfl; have y7 := hSw.a.cell 7 rfl; have y8 := hSw.a.cell 8 rfl; go_simp <;> (try with_reducible rfl))
      try simp only [Act.put, List.setIfInBounds_toArray, List.set_cons_zero, List.set_cons_succ]
      refine wpAnyH_take (i := 13) (oi := ?o10o) (v := ?o10v) ?o10h (by kernel_rfl) (by kernel_rfl) (by kernel_rfl) ?o10q ?o10y hHeld ?o10r
      case o10h => (simp only [List.getElem?_toArray, List.getElem?_cons_succ, List.getElem?_cons_zero]; rfl)
      case o10q => exact fun _ _ _ h => h
      case o10y => (refine Or.inl ⟨by first | kernel_rfl | rfl, ?_⟩; intro w hSw; (try dsimp only at hSw); have y1 := hSw.a.cell 1 rfl; have y2 := hSw.a.cell 2 rfl; have y3 := hSw.a.cell 3 rfl; have y4 := hSw.a.cell 4 rfl; have y5 := hSw.a.cell 5 rfl; have y6 := hSw.a.cell 6 rfl; have y7 := hSw.a.cell 7 rfl; have y8 := hSw.a.cell 8 rfl; go_simp <;> (try with_reducible rfl))
      try simp only [Act.put, List.setIfInBounds_toArray, List.set_cons_zero, List.set_cons_succ]
      refine wpAnyH_take (i := 14) (oi := ?o11o) (v := ?o11v) ?o11h (by kernel_rfl) (by kernel_rfl) (by kernel_rfl) ?o11q ?o11y hHeld ?o11r
      case o11h => (simp only [List.getElem?_toArray, List.getElem?_cons_succ, List.getElem?_cons_zero]; rfl)
      case o11q => exact fun _ _ _ h => h
      case o11y => (refine Or.inl ⟨by first | kernel_rfl | rfl, ?_⟩; intro w hSw; (try dsimp only at hSw); have y1 := hSw.a.cell 1 rfl; have y2 := hSw.a.cell 2 rfl; have y3 := hSw.a.cell 3 rfl; have y4 := hSw.a.cell 4 rfl; have y5 := hSw.a.cell 5 rfl; have y6 := hSw.a.cell 6 rfl; have y7 := hSw.a.cell 7 rfl; have y8 := hSw.a.cell 8 rfl; go_simp <;> (try with_reducible rfl))
      try simp only [Act.put, List.setIfInBounds_toArray, List.set_cons_zero, List.set_cons_succ]
      refine wpAnyH_ready (rs := [3, 10]) (by kernel_rfl) (by simp) ?_
      refine (AllReadyH.cons rfl (fun K hK => ?_) (AllReadyH.cons rfl (fun K hK => ?_) AllReadyH.nil))
      ·
        go_simp
        ((with_reducible refine (kB _).mono ?_); rintro e3 w3 ⟨rfl, hb3⟩; (have HB3 := Lib.hid hb3))
        refine hK.out _ _ (hHeld.keep hb3) (fun hHeld => ?_)
        clear hK K
        try simp only [Act.put, List.setIfInBounds_toArray, List.set_cons_zero, List.set_cons_succ]
        refine wpAnyH_ready (rs := [10]) (by kernel_rfl) (by simp) ?_
        refine (AllReadyH.cons rfl (fun K hK => ?_) AllReadyH.nil)
        go_simp
        first | have HSL := Lib.hid (SL.new w3 a.mn a.mx a.la 2) | have HSL := Lib.hid ((SL.new w2 a.mn a.mx a.la 2).below ((Below.refl _ _).drew))
        refine hK.out _ _ (hHeld.keep ((Below.refl _ _).alloc (Nat.le_refl _) _)) (fun hHeld => ?_)
        clear hK K
        try simp only [Act.put, List.setIfInBounds_toArray, List.set_cons_zero, List.set_cons_succ]
        refine wpAnyH_ready (rs := [11]) (by kernel_rfl) (by simp) ?_
        refine (AllReadyH.cons rfl (fun K hK => ?_) AllReadyH.nil)
        go_simp
        ((with_reducible refine (kA _ _ (by first | exact HSL.out | exact HSL.out.below HB3.out)).mono ?_); rintro e4 w4 ⟨rfl, hb4⟩)
        refine hK.out _ _ (hHeld.keep hb4) (fun hHeld => ?_)
        clear hK K
        try simp only [Act.put, List.setIfInBounds_toArray, List.set_cons_zero, List.set_cons_succ]
        refine wpAnyH_take (i := 12) (oi := ?o12o) (v := ?o12v) ?o12h (by kernel_rfl) (by kernel_rfl) (by kernel_rfl) ?o12q ?o12y hHeld ?o12r
        case o12h => (simp only [List.getElem?_toArray, List.getElem?_cons_succ, List.getElem?_cons_zero]; rfl)
        case o12q => exact fun _ _ _ h => h
        case o12y => (refine Or.inl ⟨by first | kernel_rfl | rfl, ?_⟩; intro w hSw; (try dsimp only at hSw); have y1 := hSw.a.cell 1 rfl; have y2 := hSw.a.cell 2 rfl; have y3 := hSw.a.cell 3 rfl; have y4 := hSw.a.cell 4 rfl; have y5 := hSw.a.cell 5 rfl; have y6 := hSw.a.cell 6 rfl; have y7 := hSw.a.cell 7 rfl; have y8 := hSw.a.cell 8 rfl; go_simp <;> (try with_reducible rfl))
        try simp only [Act.put, List.setIfInBounds_toArray, List.set_cons_zero, List.set_cons_succ]
        refine wpAnyH_ready (rs := [15]) (by kernel_rfl) (by simp) ?_
        refine (AllReadyH.cons rfl (fun K hK => ?_) AllReadyH.nil)
        go_simp
        ((with_reducible refine (kM _).mono ?_); rintro e6 w6 ⟨rfl, hb6⟩)
        refine hK.out _ _ (hHeld.keep hb6) (fun hHeld => ?_)
        clear hK K
        try simp only [Act.put, List.setIfInBounds_toArray, List.set_cons_zero, List.set_cons_succ]
        refine wpAnyH_take (i := 16) (oi := ?o13o) (v := ?o13v) ?o13h (by kernel_rfl) (by kernel_rfl) (by kernel_rfl) ?o13q ?o13y hHeld ?o13r
        case o13h => (simp only [List.getElem?_toArray, List.getElem?_cons_succ, List.getElem?_cons_zero]; rfl)
        case o13q => exact fun _ _ _ h => h
        case o13y => (refine Or.inl ⟨by first | kernel_rfl | rfl, ?_⟩; intro w hSw; (try dsimp only at hSw); have y1 := hSw.a.cell 1 rfl; have y2 := hSw.a.cell 2 rfl; have y3 := hSw.a.cell 3 rfl; have y4 := hSw.a.cell 4 rfl; have y5 := hSw.a.cell 5 rfl; have y6 := hSw.a.cell 6 rfl; have y7 := hSw.a.cell 7 rfl; have y8 := hSw.a.cell 8 rfl; go_simp <;> (try with_reducible rfl))
        try simp only [Act.put, List.setIfInBounds_toArray, List.set_cons_zero, List.set_cons_succ]
        refine wpAnyH_take (i := 17) (oi := ?o14o) (v := ?o14v) ?o14h (by kernel_rfl) (by kernel_rfl) (by kernel_rfl) ?o14q ?o14y hHeld ?o14r
        case o14h => (simp only [List.getElem?_toArray, List.getElem?_cons_succ, List.getElem?_cons_zero]; rfl)
        case o14q => exact fun _ _ _ h => h
        case o14y => (refine Or.inl ⟨by first | kernel_rfl | rfl, ?_⟩; intro w hSw; (try dsimp only at hSw); have y1 := hSw.a.cell 1 rfl; have y2 := hSw.a.cell 2 rfl; have y3 := hSw.a.cell 3 rfl; have y4 := hSw.a.cell 4 rfl; have y5 := hSw.a.cell 5 rfl; have y6 := hSw.a.cell 6 rfl; have y7 := hSw.a.cell 7 rfl; have y8 := hSw.a.cell 8 rfl; go_simp <;> (try with_reducible rfl))
        try simp only [Act.put, List.setIfInBounds_toArray, List.set_cons_zero, List.set_cons_succ]
        refine wpAnyH_take (i := 18) (oi := ?o15o) (v := ?o15v) ?o15h (by kernel_rfl) (by kernel_rfl) (by kernel_rfl) ?o15q ?o15y hHeld ?o15r
        case o15h => (simp only [List.getElem?_toArray, List.getElem?_cons_succ, List.getElem?_cons_zero]; rfl)
        case o15q => exact fun _ _ _ h => h
        case o15y => (refine Or.inl ⟨by first | kernel_rfl | rfl, ?_⟩; intro w hSw; (try dsimp only at hSw); have y1 := hSw.a.cell 1 rfl; have y2 := hSw.a.cell 2 rfl; have y3 := hSw.a.cell 3 rfl; have y4 := hSw.a.cell 4 rfl; have y5 := hSw.a.cell 5 rfl; have y6 := hSw.a.cell 6 rfl; have y7 := hSw.a.cell 7 rfl; have y8 := hSw.a.cell 8 rfl; go_simp <;> (try with_reducible rfl))
        try simp only [Act.put, List.setIfInBounds_toArray, List.set_cons_zero, List.set_cons_succ]
        refine wpAnyH_done (by kernel_rfl) ?_ _
        rw [HHEAD.out]
        have H3 := Lib.hid hHeld
        clear hHeld HHEAD
        go_upto_region 8 with fail
        refine wp_region_lit ?_
        refine wpList_plain rfl fun K hK => ?_
        go_simp
        refine hK _ _ ?_
        clear hK K
        (try simp only [Act.put, List.setIfInBounds_toArray, List.set_cons_zero, List.set_cons_succ])
        refine wpList_plain rfl fun K hK => ?_
        refine load9 _ rfl w.heap.size 9 a.b rfl (range9 H3.out.a) ?_
        refine hK _ _ ?_
        clear hK K
        (try simp only [Act.put, List.setIfInBounds_toArray, List.set_cons_zero, List.set_cons_succ])
        refine wpList_plain rfl fun K hK => ?_
        go_simp
        refine hK _ _ ?_
        clear hK K
        (try simp only [Act.put, List.setIfInBounds_toArray, List.set_cons_zero, List.set_cons_succ])
        refine wpList_nil ?_
        obtain ⟨w9, hw9⟩ : ∃ x, x = w6 := ⟨_, rfl⟩
        rw [← hw9] at H3 ⊢
        clear hw9
        go_wp2
        go_loopw [5, 7, 41] (fun s _ i wr => ∃ k : Nat, i = .int .i64 (k : Int) ∧ k ≤ 9 ∧ s = .string (tx (headL a ++ bksL a.b k)) ∧ HB w a wr) (fun _ _ i _ => 9 - (intOf i).toNat)
        case atStart => exact ⟨0, rfl, by omega, by rw [show bksL a.b 0 = [] from rfl, List.append_nil], H3.out⟩
        case round =>
          obtain ⟨k, rfl, hk, rfl, hR⟩ := hrel
          have HR := Lib.hid hR
          clear hR H3
          by_cases hk9 : k < 9
          · have hki : (k : Int) < 9 := by omega
            have hwk : IntKind.i64.wrap ((k : Int) + 1) = (k : Int) + 1 := by rw [IntKind.wrap_i64]; omega
            have hyb := HBK.out k hk9
            obtain ⟨m, hm⟩ : ∃ m : Nat, a.b k = (m : Int) := ⟨(a.b k).toNat, by omega⟩
            have hix := fun w => index9' a.b k hk9 w
            rw [hm] at hix hyb
            have hwm : IntKind.u64.wrap (m : Int) = (m : Int) := by rw [IntKind.wrap_u64]; omega
            obtain ⟨PB, hPB⟩ : ∃ x, tx (enc m) = x := ⟨_, rfl⟩
            have kp := fun W => put_is m PB W (by omega) (Lib.hid hPB)
            unfold TextDone at kp
            obtain ⟨T, hT⟩ : ∃ x, tx (headL a ++ bksL a.b k) = x := ⟨_, rfl⟩
            have HNX := Lib.hid (show T ++ PB = tx (headL a ++ bksL a.b (k + 1)) by rw [← hT, ← hPB, tx_app, List.append_assoc]; congr 1; rw [show bksL a.b (k + 1) = bksL a.b k ++ enc (a.b k).toNat from rfl, hm]; rfl)
            have qT : ¬ 9223372036854775807 < T.size + PB.size := by
              rw [← hT, ← hPB, tx_size, tx_size, List.length_append]
              have h1 := HHL.out
              have h2 := bksL_len a.b k (fun i hi => HBK.out i (by omega)) HN2.out
              have h3 := enc_len10 m (by omega)
              omega
            rw [hT]
            clear hT hPB hm hyb
            go_wp2_with (go_at_call 39; (with_reducible refine (kp _).mono ?_); rintro e5 w5 ⟨rfl, hb5⟩; (have H5 := Lib.hid (HR.out.keep hb5)); clear hb5)
            go_roundw
            case rel => exact ⟨k + 1, by go_num, by omega, by rw [HNX.out], H5.out⟩
            case measure => simp [intOf]; omega
          · obtain rfl : k = 9 := by omega
            rw [HS.out]
            go_wp2
            go_ret2
            exact ⟨rfl, HR.out.bel⟩
      ·
        go_simp
        first | have HSL := Lib.hid (SL.new w3 a.mn a.mx a.la 2) | have HSL := Lib.hid ((SL.new w2 a.mn a.mx a.la 2).below ((Below.refl _ _).drew))
        refine hK.out _ _ (hHeld.keep ((Below.refl _ _).alloc (Nat.le_refl _) _)) (fun hHeld => ?_)
        clear hK K
        try simp only [Act.put, List.setIfInBounds_toArray, List.set_cons_zero, List.set_cons_succ]
        refine wpAnyH_ready (rs := [3]) (by kernel_rfl) (by simp) ?_
        refine (AllReadyH.cons rfl (fun K hK => ?_) AllReadyH.nil)
        go_simp
        ((with_reducible refine (kB _).mono ?_); rintro e3 w3 ⟨rfl, hb3⟩; (have HB3 := Lib.hid hb3))
        refine hK.out _ _ (hHeld.keep hb3) (fun hHeld => ?_)
        clear hK K
        try simp only [Act.put, List.setIfInBounds_toArray, List.set_cons_zero, List.set_cons_succ]
        refine wpAnyH_ready (rs := [11]) (by kernel_rfl) (by simp) ?_
        refine (AllReadyH.cons rfl (fun K hK => ?_) AllReadyH.nil)
        go_simp
        ((with_reducible refine (kA _ _ (by first | exact HSL.out | exact HSL.out.below HB3.out)).mono ?_); rintro e4 w4 ⟨rfl, hb4⟩)
        refine hK.out _ _ (hHeld.keep hb4) (fun hHeld => ?_)
        clear hK K
        try simp only [Act.put, List.setIfInBounds_toArray, List.set_cons_zero, List.set_cons_succ]
        refine wpAnyH_take (i := 12) (oi := ?o16o) (v := ?o16v) ?o16h (by kernel_rfl) (by kernel_rfl) (by kernel_rfl) ?o16q ?o16y hHeld ?o16r
        case o16h => (simp only [List.getElem?_toArray, List.getElem?_cons_succ, List.getElem?_cons_zero]; rfl)
        case o16q => exact fun _ _ _ h => h
        case o16y => (refine Or.inl ⟨by first | kernel_rfl | rfl, ?_⟩; intro w hSw; (try dsimp only at hSw); have y1 := hSw.a.cell 1 rfl; have y2 := hSw.a.cell 2 rfl; have y3 := hSw.a.cell 3 rfl; have y4 := hSw.a.cell 4 rfl; have y5 := hSw.a.cell 5 rfl; have y6 := hSw.a.cell 6 rfl; have y7 := hSw.a.cell 7 rfl; have y8 := hSw.a.cell 8 rfl; go_simp <;> (try with_reducible rfl))
        try simp only [Act.put, List.setIfInBounds_toArray, List.set_cons_zero, List.set_cons_succ]
        refine wpAnyH_ready (rs := [15]) (by kernel_rfl) (by simp) ?_
        refine (AllReadyH.cons rfl (fun K hK => ?_) AllReadyH.nil)
        go_simp
        ((with_reducible refine (kM _).mono ?_); rintro e6 w6 ⟨rfl, hb6⟩)
        refine hK.out _ _ (hHeld.keep hb6) (fun hHeld => ?_)
        clear hK K
        try simp only [Act.put, List.setIfInBounds_toArray, List.set_cons_zero, List.set_cons_succ]
        refine wpAnyH_take (i := 16) (oi := ?o17o) (v := ?o17v) ?o17h (by kernel_rfl) (by kernel_rfl) (by kernel_rfl) ?o17q ?o17y hHeld ?o17r
        case o17h => (simp only [List.getElem?_toArray, List.getElem?_cons_succ, List.getElem?_cons_zero]; rfl)
        case o17q => exact fun _ _ _ h => h
        case o17y => (refine Or.inl ⟨by first | kernel_rfl | rfl, ?_⟩; intro w hSw; (try dsimp only at hSw); have y1 := hSw.a.cell 1 rfl; have y2 := hSw.a.cell 2 rfl; have y3 := hSw.a.cell 3 rfl; have y4 := hSw.a.cell 4 rfl; have y5 := hSw.a.cell 5 rfl; have y6 := hSw.a.cell 6 rfl; have y7 := hSw.a.cell 7 rfl; have y8 := hSw.a.cell 8 rfl; go_simp <;> (try with_reducible rfl))
        try simp only [Act.put, List.setIfInBounds_toArray, List.set_cons_zero, List.set_cons_succ]
        refine wpAnyH_take (i := 17) (oi := ?o18o) (v := ?o18v) ?o18h (by kernel_rfl) (by kernel_rfl) (by kernel_rfl) ?o18q ?o18y hHeld ?o18r
        case o18h => (simp only [List.getElem?_toArray, List.getElem?_cons_succ, List.getElem?_cons_zero]; rfl)
        case o18q => exact fun _ _ _ h => h
        case o18y => (refine Or.inl ⟨by first | kernel_rfl | rfl, ?_⟩; intro w hSw; (try dsimp only at hSw); have y1 := hSw.a.cell 1 rfl; have y2 := hSw.a.cell 2 rfl; have y3 := hSw.a.cell 3 rfl; have y4 := hSw.a.cell 4 rfl; have y5 := hSw.a.cell 5 rfl; have y6 := hSw.a.cell 6 rfl; have y7 := hSw.a.cell 7 rfl; have y8 := hSw.a.cell 8 rfl; go_simp <;> (try with_reducible rfl))
        try simp only [Act.put, List.setIfInBounds_toArray, List.set_cons_zero, List.set_cons_succ]
        refine wpAnyH_take (i := 18) (oi := ?o19o) (v := ?o19v) ?o19h (by kernel_rfl) (by kernel_rfl) (by kernel_rfl) ?o19q ?o19y hHeld ?o19r
        case o19h => (simp only [List.getElem?_toArray, List.getElem?_cons_succ, List.getElem?_cons_zero]; rfl)
        case o19q => exact fun _ _ _ h => h
        case o19y => (refine Or.inl ⟨by first | kernel_rfl | rfl, ?_⟩; intro w hSw; (try dsimp only at hSw); have y1 := hSw.a.cell 1 rfl; have y2 := hSw.a.cell 2 rfl; have y3 := hSw.a.cell 3 rfl; have y4 := hSw.a.cell 4 rfl; have y5 := hSw.a.cell 5 rfl; have y6 := hSw.a.cell 6 rfl; have y7 := hSw.a.cell 7 rfl; have y8 := hSw.a.cell 8 rfl; go_simp <;> (try with_reducible rfl))
        try simp only [Act.put, List.setIfInBounds_toArray, List.set_cons_zero, List.set_cons_succ]
        refine wpAnyH_done (by kernel_rfl) ?_ _
        rw [HHEAD.out]
        have H3 := Lib.hid hHeld
        clear hHeld HHEAD
        go_upto_region 8 with fail
        refine wp_region_lit ?_
        refine wpList_plain rfl fun K hK => ?_
        go_simp
        refine hK _ _ ?_
        clear hK K
        (try simp only [Act.put, List.setIfInBounds_toArray, List.set_cons_zero, List.set_cons_succ])
        refine wpList_plain rfl fun K hK => ?_
        refine load9 _ rfl w.heap.size 9 a.b rfl (range9 H3.out.a) ?_
        refine hK _ _ ?_
        clear hK K
        (try simp only [Act.put, List.setIfInBounds_toArray, List.set_cons_zero, List.set_cons_succ])
        refine wpList_plain rfl fun K hK => ?_
        go_simp
        refine hK _ _ ?_
        clear hK K
        (try simp only [Act.put, List.setIfInBounds_toArray, List.set_cons_zero, List.set_cons_succ])
        refine wpList_nil ?_
        obtain ⟨w9, hw9⟩ : ∃ x, x = w6 := ⟨_, rfl⟩
        rw [← hw9] at H3 ⊢
        clear hw9
        go_wp2
        go_loopw [5, 7, 41] (fun s _ i wr => ∃ k : Nat, i = .int .i64 (k : Int) ∧ k ≤ 9 ∧ s = .string (tx (headL a ++ bksL a.b k)) ∧ HB w a wr) (fun _ _ i _ => 9 - (intOf i).toNat)
        case atStart => exact ⟨0, rfl, by omega, by rw [show bksL a.b 0 = [] from rfl, List.append_nil], H3.out⟩
        case round =>
          obtain ⟨k, rfl, hk, rfl, hR⟩ := hrel
          have HR := Lib.hid hR
          clear hR H3
          by_cases hk9 : k < 9
          · have hki : (k : Int) < 9 := by omega
            have hwk : IntKind.i64.wrap ((k : Int) + 1) = (k : Int) + 1 := by rw [IntKind.wrap_i64]; omega
            have hyb := HBK.out k hk9
            obtain ⟨m, hm⟩ : ∃ m : Nat, a.b k = (m : Int) := ⟨(a.b k).toNat, by omega⟩
            have hix := fun w => index9' a.b k hk9 w
            rw [hm] at hix hyb
            have hwm : IntKind.u64.wrap (m : Int) = (m : Int) := by rw [IntKind.wrap_u64]; omega
            obtain ⟨PB, hPB⟩ : ∃ x, tx (enc m) = x := ⟨_, rfl⟩
            have kp := fun W => put_is m PB W (by omega) (Lib.hid hPB)
            unfold TextDone at kp
            obtain ⟨T, hT⟩ : ∃ x, tx (headL a ++ bksL a.b k) = x := ⟨_, rfl⟩
            have HNX := Lib.hid (show T ++ PB = tx (headL a ++ bksL a.b (k + 1)) by rw [← hT, ← hPB, tx_app, List.append_assoc]; congr 1; rw [show bksL a.b (k + 1) = bksL a.b k ++ enc (a.b k).toNat from rfl, hm]; rfl)
            have qT : ¬ 9223372036854775807 < T.size + PB.size := by
              rw [← hT, ← hPB, tx_size, tx_size, List.length_append]
              have h1 := HHL.out
              have h2 := bksL_len a.b k (fun i hi => HBK.out i (by omega)) HN2.out
              have h3 := enc_len10 m (by omega)
              omega
            rw [hT]
            clear hT hPB hm hyb
            go_wp2_with (go_at_call 39; (with_reducible refine (kp _).mono ?_); rintro e5 w5 ⟨rfl, hb5⟩; (have H5 := Lib.hid (HR.out.keep hb5)); clear hb5)
            go_roundw
            case rel => exact ⟨k + 1, by go_num, by omega, by rw [HNX.out], H5.out⟩
            case measure => simp [intOf]; omega
          · obtain rfl : k = 9 := by omega
            rw [HS.out]
            go_wp2
            go_ret2
            exact ⟨rfl, HR.out.bel⟩

set_option maxHeartbeats 4000000 in
theorem rbytes8_is (a : Ag) (ha : a.fits) (S : ByteArray) (hS : Hid (tx (bytesA a) = S)) (w : World) : Calls Try.prog 22 #[agV a] w fun e w' => e = .returned (.tuple #[.string S, .int .i64 (errA a)]) ∧ Below w.heap.size w w' := by
  have hN := HB.new w a
  simp only [cells18] at hN
  have HN := Lib.hid hN
  obtain ⟨er, her⟩ : ∃ z, errA a = z := ⟨_, rfl⟩
  have kc := fun W => rcheck8_is a ha er (Lib.hid her) W
  rw [her]
  have HER := Lib.hid her
  clear hN her
  rw [show agV a = .agg #[.int .i64 a.n, .int .i64 (wh a.s), .int .u64 (wl a.s), .int .i64 a.mn, .int .i64 a.mx, .int .i64 a.la, .int .i64 a.st.c, .int .i64 a.st.s, .int .i64 a.st.q, .int .i64 (a.b 0), .int .i64 (a.b 1), .int .i64 (a.b 2), .int .i64 (a.b 3), .int .i64 (a.b 4), .int .i64 (a.b 5), .int .i64 (a.b 6), .int .i64 (a.b 7), .int .i64 (a.b 8)] from rfl]
  go_enter Try.func22, Try.ntmps22
  go_upto_region 1 with fail
  obtain ⟨w0, hw0, h0⟩ := HN.out.name
  rw [← hw0]
  have H0 := Lib.hid h0
  clear hw0 h0 HN
  refine wp_region_lit ?_
  refine wpList_plain rfl fun K hK => ?_
  refine load_ag _ rfl w.heap.size a rfl H0.out.a ?_
  refine hK _ _ ?_
  clear hK K
  (try simp only [Act.put, List.setIfInBounds_toArray, List.set_cons_zero, List.set_cons_succ])
  refine wpList_plain rfl fun K hK => ?_
  go_simp
  ((with_reducible refine (kc _).mono ?_); rintro e1 w1 ⟨rfl, hb1⟩)
  refine hK _ _ ?_
  clear hK K
  (try simp only [Act.put, List.setIfInBounds_toArray, List.set_cons_zero, List.set_cons_succ])
  refine wpList_plain rfl fun K hK => ?_
  go_simp
  refine hK _ _ ?_
  clear hK K
  (try simp only [Act.put, List.setIfInBounds_toArray, List.set_cons_zero, List.set_cons_succ])
  refine wpList_nil ?_
  have H1 := Lib.hid (H0.out.keep hb1)
  clear hb1 kc H0
  cases hok : okA a with
  | false =>
    obtain rfl : er = 1 := by rw [← HER.out]; unfold errA; rw [hok]; rfl
    obtain rfl : S = ⟨#[]⟩ := by rw [← hS.out]; unfold bytesA; rw [hok]; rfl
    clear hok hS HER
    go_wp2
    go_ret2
    exact ⟨rfl, H1.out.bel⟩
  | true =>
    obtain rfl : er = 0 := by rw [← HER.out]; unfold errA; rw [hok]; rfl
    have x0 := H1.out.a.cell 0 rfl
    by_cases hn : a.n = 0
    · have hS0 : tx (enc 0) = S := by rw [← hS.out]; unfold bytesA; rw [hok, hn]; rfl
      have kp : ∀ W, Calls Try.prog 43 #[.int .u64 0] W (TextDone S W) := fun W => refPut_is 0 S W (by decide) (Lib.hid hS0)
      have hnb : (a.n == 0) = true := by simpa using hn
      have hw0 : IntKind.u64.wrap a.n = 0 := by rw [hn]; rfl
      unfold TextDone at kp
      clear hok hS HER hn hS0
      go_wp2_with (go_at_call 43; (with_reducible refine (kp _).mono ?_); rintro e2 w2 ⟨rfl, hb2⟩; (have H2 := Lib.hid (H1.out.keep hb2)); (have x0b := H2.out.a.cell 0 rfl); clear hb2)
      go_ret2
      exact ⟨rfl, H2.out.bel⟩
    · obtain ⟨n1, n2, hbk, hst⟩ := right_parts hok hn
      obtain ⟨n, hnn⟩ : ∃ n : Nat, a.n = (n : Int) := ⟨a.n.toNat, by omega⟩
      have hnb : (a.n == 0) = false := by simpa using hn
      have hwn : IntKind.u64.wrap a.n = (n : Int) := by rw [IntKind.wrap_u64]; omega
      have hS2 : tx (headL a ++ bksL a.b 9) = S := by rw [← hS.out]; unfold bytesA; rw [hok, if_neg hn]; rfl
      have HS := Lib.hid hS2
      obtain ⟨E, hE⟩ : ∃ E, tx (enc n) = E := ⟨_, rfl⟩
      obtain ⟨WB, hWB⟩ : ∃ E, wideB (wh a.s) (wl a.s) = E := ⟨_, rfl⟩
      obtain ⟨AB, hAB⟩ : ∃ E, tx (encs [a.mn, a.mx, a.la]) = E := ⟨_, rfl⟩
      obtain ⟨MB, hMB⟩ : ∃ E, tx a.st.bytes = E := ⟨_, rfl⟩
      have zE : E.size ≤ 10 := by rw [← hE, tx_size]; exact enc_len10 _ (by omega)
      have zW : WB.size = 16 := by rw [← hWB]; exact wideL_size a.s
      have zA : AB.size ≤ 30 := by
        rw [← hAB, tx_size]
        exact encs_len [a.mn, a.mx, a.la] (fun n hn => by simp at hn; rcases hn with rfl | rfl | rfl; exact ha.mn; exact ha.mx; exact ha.la)
      have zM : MB.size ≤ 30 := by rw [← hMB, tx_size]; exact stB_len hst
      obtain ⟨X1, hX1⟩ : ∃ x, E ++ WB = x := ⟨_, rfl⟩
      have zX1 : X1.size = E.size + WB.size := by rw [← hX1]; simp
      have qX1 : ¬ 9223372036854775807 < E.size + WB.size := by omega
      obtain ⟨X2, hX2⟩ : ∃ x, X1 ++ AB = x := ⟨_, rfl⟩
      have zX2 : X2.size = X1.size + AB.size := by rw [← hX2]; simp
      have qX2 : ¬ 9223372036854775807 < X1.size + AB.size := by omega
      obtain ⟨X3, hX3⟩ : ∃ x, X2 ++ MB = x := ⟨_, rfl⟩
      have zX3 : X3.size = X2.size + MB.size := by rw [← hX3]; simp
      have qX3 : ¬ 9223372036854775807 < X2.size + MB.size := by omega
      have HHEAD := Lib.hid (show X3 = tx (headL a) by
        rw [← hX3, ← hX2, ← hX1, ← hE, ← hWB, ← hAB, ← hMB]
        unfold headL
        rw [show a.n.toNat = n by omega]
        exact tx_five' (enc n) (wideL a.s) (encs [a.mn, a.mx, a.la]) a.st.bytes)
      have kp := fun W => refPut_is n E W (by omega) (Lib.hid hE)
      have kB := fun W => refBytes_is (wh a.s) (wl a.s) WB W (by unfold wl; omega) (by unfold wl; omega) (Lib.hid hWB)
      have kA := fun b W (h : SL W b a.mn a.mx a.la) => rall3_is b a.mn a.mx a.la AB W ha.mn ha.mx ha.la (Lib.hid hAB) h
      have kM := fun W => rbytes_is a.st MB W (Lib.hid hMB)
      unfold TextDone at kp kA kM
      have HBK := Lib.hid hbk
      have HN2 := Lib.hid n2
      have HHL := Lib.hid (show (headL a).length ≤ 100 by rw [← tx_size, ← HHEAD.out]; omega)
      clear hok hS hS2 hn hE hWB hAB hMB hst hbk hnn HER zE zW zA zM zX1 zX2 zX3
      go_upto_region 7 with (go_at_call 43; (with_reducible refine (kp _).mono ?_); rintro e2 w2 ⟨rfl, hb2⟩; (have H2 := Lib.hid (H1.out.keep hb2)); (have x0b := H2.out.a.cell 0 rfl); clear hb2)
      clear x0 x0b kp
      refine wp_region_held_drew (S := (HB w a)) (by kernel_rfl) H2.out.drew (fun hHeld => ?_)
      refine wpAnyH_take (i := 0) (oi := ?o1o) (v := ?o1v) ?o1h (by kernel_rfl) (by kernel_rfl) (by kernel_rfl) ?o1q ?o1y hHeld ?o1r
      case o1h => (simp only [List.getElem?_toArray, List.getElem?_cons_zero]; rfl)
      case o1q => exact fun _ _ _ h => h
      case o1y => (refine Or.inl ⟨by first | kernel_rfl | rfl, ?_⟩; intro w hSw; (try dsimp only at hSw); have y1 := hSw.a.cell 1 rfl; have y2 := hSw.a.cell 2 rfl; have y3 := hSw.a.cell 3 rfl; have y4 := hSw.a.cell 4 rfl; have y5 := hSw.a.cell 5 rfl; have y6 := hSw.a.cell 6 rfl; have y7 := hSw.a.cell 7 rfl; have y8 := hSw.a.cell 8 rfl; go_simp <;> (try with_reducible rfl))
      try simp only [Act.put, List.setIfInBounds_toArray, List.set_cons_zero, List.set_cons_succ]
      refine wpAnyH_take (i := 1) (oi := ?o2o) (v := ?o2v) ?o2h (by kernel_rfl) (by kernel_rfl) (by kernel_rfl) ?o2q ?o2y hHeld ?o2r
      case o2h => (simp only [List.getElem?_toArray, List.getElem?_cons_succ, List.getElem?_cons_zero]; rfl)
      case o2q => exact fun _ _ _ h => h
      case o2y => (refine Or.inl ⟨by first | kernel_rfl | rfl, ?_⟩; intro w hSw; (try dsimp only at hSw); have y1 := hSw.a.cell 1 rfl; have y2 := hSw.a.cell 2 rfl; have y3 := hSw.a.cell 3 rfl; have y4 := hSw.a.cell 4 rfl; have y5 := hSw.a.cell 5 rfl; have y6 := hSw.a.cell 6 rfl; have y7 := hSw.a.cell 7 rfl; have y8 := hSw.a.cell 8 rfl; go_simp <;> (try with_reducible rfl))
      try simp only [Act.put, List.setIfInBounds_toArray, List.set_cons_zero, List.set_cons_succ]
      refine wpAnyH_take (i := 2) (oi := ?o3o) (v := ?o3v) ?o3h (by kernel_rfl) (by kernel_rfl) (by kernel_rfl) ?o3q ?o3y hHeld ?o3r
      case o3h => (simp only [List.getElem?_toArray, List.getElem?_cons_succ, List.getElem?_cons_zero]; rfl)
      case o3q => exact fun _ _ _ h => h
      case o3y => (refine Or.inl ⟨by first | kernel_rfl | rfl, ?_⟩; intro w hSw; (try dsimp only at hSw); have y1 := hSw.a.cell 1 rfl; have y2 := hSw.a.cell 2 rfl; have y3 := hSw.a.cell 3 rfl; have y4 := hSw.a.cell 4 rfl; have y5 := hSw.a.cell 5 rfl; have y6 := hSw.a.cell 6 rfl; have y7 := hSw.a.cell 7 rfl; have y8 := hSw.a.cell 8 rfl; go_simp <;> (try with_reducible rfl))
      try simp only [Act.put, List.setIfInBounds_toArray, List.set_cons_zero, List.set_cons_succ]
      refine wpAnyH_take (i := 5) (oi := ?o4o) (v := ?o4v) ?o4h (by kernel_rfl) (by kernel_rfl) (by kernel_rfl) ?o4q ?o4y hHeld ?o4r
      case o4h => (simp only [List.getElem?_toArray, List.getElem?_cons_succ, List.getElem?_cons_zero]; rfl)
      case o4q => exact fun _ _ _ h => h
      case o4y => (refine Or.inl ⟨by first | kernel_rfl | rfl, ?_⟩; intro w hSw; (try dsimp only at hSw); have y1 := hSw.a.cell 1 rfl; have y2 := hSw.a.cell 2 rfl; have y3 := hSw.a.cell 3 rfl; have y4 := hSw.a.cell 4 rfl; have y5 := hSw.a.cell 5 rfl; have y6 := hSw.a.cell 6 rfl; have y7 := hSw.a.cell 7 rfl; have y8 := hSw.a.cell 8 rfl; go_simp <;> (try with_reducible rfl))
      try simp only [Act.put, List.setIfInBounds_toArray, List.set_cons_zero, List.set_cons_succ]
      refine wpAnyH_take (i := 6) (oi := ?o5o) (v := ?o5v) ?o5h (by kernel_rfl) (by kernel_rfl) (by kernel_rfl) ?o5q ?o5y hHeld ?o5r
      case o5h => (simp only [List.getElem?_toArray, List.getElem?_cons_succ, List.getElem?_cons_zero]; rfl)
      case o5q => exact fun _ _ _ h => h
      case o5y => (refine Or.inl ⟨by first | kernel_rfl | rfl, ?_⟩; intro w hSw; (try dsimp only at hSw); have y1 := hSw.a.cell 1 rfl; have y2 := hSw.a.cell 2 rfl; have y3 := hSw.a.cell 3 rfl; have y4 := hSw.a.cell 4 rfl; have y5 := hSw.a.cell 5 rfl; have y6 := hSw.a.cell 6 rfl; have y7 := hSw.a.cell 7 rfl; have y8 := hSw.a.cell 8 rfl; go_simp <;> (try with_reducible rfl))
      try simp only [Act.put, List.setIfInBounds_toArray, List.set_cons_zero, List.set_cons_succ]
      refine wpAnyH_take (i := 7) (oi := ?o6o) (v := ?o6v) ?o6h (by kernel_rfl) (by kernel_rfl) (by kernel_rfl) ?o6q ?o6y hHeld ?o6r
      case o6h => (simp only [List.getElem?_toArray, List.getElem?_cons_succ, List.getElem?_cons_zero]; rfl)
      case o6q => exact fun _ _ _ h => h
      case o6y => (refine Or.inl ⟨by first | kernel_rfl | rfl, ?_⟩; intro w hSw; (try dsimp only at hSw); have y1 := hSw.a.cell 1 rfl; have y2 := hSw.a.cell 2 rfl; have y3 := hSw.a.cell 3 rfl; have y4 := hSw.a.cell 4 rfl; have y5 := hSw.a.cell 5 rfl; have y6 := hSw.a.cell 6 rfl; have y7 := hSw.a.cell 7 rfl; have y8 := hSw.a.cell 8 rfl; go_simp <;> (try with_reducible rfl))
      try simp only [Act.put, List.setIfInBounds_toArray, List.set_cons_zero, List.set_cons_succ]
      refine wpAnyH_take (i := 8) (oi := ?o7o) (v := ?o7v) ?o7h (by kernel_rfl) (by kernel_rfl) (by kernel_rfl) ?o7q ?o7y hHeld ?o7r
      case o7h => (simp only [List.getElem?_toArray, List.getElem?_cons_succ, List.getElem?_cons_zero]; rfl)
      case o7q => exact fun _ _ _ h => h
      case o7y => (refine Or.inl ⟨by first | kernel_rfl | rfl, ?_⟩; intro w hSw; (try dsimp only at hSw); have y1 := hSw.a.cell 1 rfl; have y2 := hSw.a.cell 2 rfl; have y3 := hSw.a.cell 3 rfl; have y4 := hSw.a.cell 4 rfl; have y5 := hSw.a.cell 5 rfl; have y6 := hSw.a.cell 6 rfl; have y7 := hSw.a.cell 7 rfl; have y8 := hSw.a.cell 8 rfl; go_simp <;> (try with_reducible rfl))
      try simp only [Act.put, List.setIfInBounds_toArray, List.set_cons_zero, List.set_cons_succ]
      refine wpAnyH_take (i := 9) (oi := ?o8o) (v := ?o8v) ?o8h (by kernel_rfl) (by kernel_rfl) (by kernel_rfl) ?o8q ?o8y hHeld ?o8r
      case o8h => (simp only [List.getElem?_toArray, List.getElem?_cons_succ, List.getElem?_cons_zero]; rfl)
      case o8q => exact fun _ _ _ h => h
      case o8y => (refine Or.inl ⟨by first | kernel_rfl | rfl, ?_⟩; intro w hSw; (try dsimp only at hSw); have y1 := hSw.a.cell 1 rfl; have y2 := hSw.a.cell 2 rfl; have y3 := hSw.a.cell 3 rfl; have y4 := hSw.a.cell 4 rfl; have y5 := hSw.a.cell 5 rfl; have y6 := hSw.a.cell 6 rfl; have y7 := hSw.a.cell 7 rfl; have y8 := hSw.a.cell 8 rfl; go_simp <;> (try with_reducible rfl))
      try simp only [Act.put, List.setIfInBounds_toArray, List.set_cons_zero, List.set_cons_succ]
      refine wpAnyH_take (i := 10) (oi := ?o9o) (v := ?o9v) ?o9h (by kernel_rfl) (by kernel_rfl) (by kernel_rfl) ?o9q ?o9y hHeld ?o9r
      case o9h => (simp only [List.getElem?_toArray, List.getElem?_cons_succ, List.getElem?_cons_zero]; rfl)
      case o9q => exact fun _ _ _ h => h
      case o9y => (refine Or.inl ⟨by first | kernel_rfl | rfl, ?_⟩; intro w hSw; (try dsimp only at hSw); have y1 := hSw.a.cell 1 rfl; have y2 := hSw.a.cell 2 rfl; have y3 := hSw.a.cell 3 rfl; have y4 := hSw.a.cell 4 rfl; have y5 := hSw.a.cell 5 rfl; have y6 := hSw.a.cell 6 rfl; have y7 := hSw.a.cell 7 rfl; have y8 := hSw.a.cell 8 rfl; go_simp <;> (try with_reducible rfl))
      try simp only [Act.put, List.setIfInBounds_toArray, List.set_cons_zero, List.set_cons_succ]
      refine wpAnyH_take (i := 14) (oi := ?o10o) (v := ?o10v) ?o10h (by kernel_rfl) (by kernel_rfl) (by kernel_rfl) ?o10q ?o10y hHeld ?o10r
      case o10h => (simp only [List.getElem?_toArray, List.getElem?_cons_succ, List.getElem?_cons_zero]; rfl)
      case o10q => exact fun _ _ _ h => h
      case o10y => (refine Or.inl ⟨by first | kernel_rfl | rfl, ?_⟩; intro w hSw; (try dsimp only at hSw); have y1 := hSw.a.cell 1 rfl; have y2 := hSw.a.cell 2 rfl; have y3 := hSw.a.cell 3 rfl; have y4 := hSw.a.cell 4 rfl; have y5 := hSw.a.cell 5 rfl; have y6 := hSw.a.cell 6 rfl; have y7 := hSw.a.cell 7 rfl; have y8 := hSw.a.cell 8 rfl; go_simp <;> (try with_reducible rfl))
      try simp only [Act.put, List.setIfInBounds_toArray, List.set_cons_zero, List.set_cons_succ]
      refine wpAnyH_take (i := 15) (oi := ?o11o) (v := ?o11v) ?o11h (by kernel_rfl) (by kernel_rfl) (by kernel_rfl) ?o11q ?o11y hHeld ?o11r
      case o11h => (simp only [List.getElem?_toArray, List.getElem?_cons_succ, List.getElem?_cons_zero]; rfl)
      case o11q => exact fun _ _ _ h => h
      case o11y => (refine Or.inl ⟨by first | kernel_rfl | rfl, ?_⟩; intro w hSw; (try dsimp only at hSw); have y1 := hSw.a.cell 1 rfl; have y2 := hSw.a.cell 2 rfl; have y3 := hSw.a.cell 3 rfl; have y4 := hSw.a.cell 4 rfl; have y5 := hSw.a.cell 5 rfl; have y6 := hSw.a.cell 6 rfl; have y7 := hSw.a.cell 7 rfl; have y8 := hSw.a.cell 8 rfl; go_simp <;> (try with_reducible rfl))
      try simp only [Act.put, List.setIfInBounds_toArray, List.set_cons_zero, List.set_cons_succ]
      refine wpAnyH_ready (rs := [3, 11]) (by kernel_rfl) (by simp) ?_
      refine (AllReadyH.cons rfl (fun K hK => ?_) (AllReadyH.cons rfl (fun K hK => ?_) AllReadyH.nil))
      ·
        go_simp
        ((with_reducible refine (kB _).mono ?_); rintro e3 w3 ⟨rfl, hb3⟩; (have HB3 := Lib.hid hb3))
        refine hK.out _ _ (hHeld.keep hb3) (fun hHeld => ?_)
        clear hK K
        try simp only [Act.put, List.setIfInBounds_toArray, List.set_cons_zero, List.set_cons_succ]
        refine wpAnyH_take (i := 4) (oi := ?o12o) (v := ?o12v) ?o12h (by kernel_rfl) (by kernel_rfl) (by kernel_rfl) ?o12q ?o12y hHeld ?o12r
        case o12h => (simp only [List.getElem?_toArray, List.getElem?_cons_succ, List.getElem?_cons_zero]; rfl)
        case o12q => exact fun _ _ _ h => h
        case o12y => (refine Or.inl ⟨by first | kernel_rfl | rfl, ?_⟩; intro w hSw; (try dsimp only at hSw); have y1 := hSw.a.cell 1 rfl; have y2 := hSw.a.cell 2 rfl; have y3 := hSw.a.cell 3 rfl; have y4 := hSw.a.cell 4 rfl; have y5 := hSw.a.cell 5 rfl; have y6 := hSw.a.cell 6 rfl; have y7 := hSw.a.cell 7 rfl; have y8 := hSw.a.cell 8 rfl; go_simp <;> (try with_reducible rfl))
        try simp only [Act.put, List.setIfInBounds_toArray, List.set_cons_zero, List.set_cons_succ]
        refine wpAnyH_ready (rs := [11]) (by kernel_rfl) (by simp) ?_
        refine (AllReadyH.cons rfl (fun K hK => ?_) AllReadyH.nil)
        go_simp
        first | have HSL := Lib.hid (SL.new w3 a.mn a.mx a.la 2) | have HSL := Lib.hid ((SL.new w2 a.mn a.mx a.la 2).below ((Below.refl _ _).drew))
        refine hK.out _ _ (hHeld.keep ((Below.refl _ _).alloc (Nat.le_refl _) _)) (fun hHeld => ?_)
        clear hK K
        try simp only [Act.put, List.setIfInBounds_toArray, List.set_cons_zero, List.set_cons_succ]
        refine wpAnyH_ready (rs := [12]) (by kernel_rfl) (by simp) ?_
        refine (AllReadyH.cons rfl (fun K hK => ?_) AllReadyH.nil)
        go_simp
        ((with_reducible refine (kA _ _ (by first | exact HSL.out | exact HSL.out.below HB3.out)).mono ?_); rintro e4 w4 ⟨rfl, hb4⟩)
        refine hK.out _ _ (hHeld.keep hb4) (fun hHeld => ?_)
        clear hK K
        try simp only [Act.put, List.setIfInBounds_toArray, List.set_cons_zero, List.set_cons_succ]
        refine wpAnyH_take (i := 13) (oi := ?o13o) (v := ?o13v) ?o13h (by kernel_rfl) (by kernel_rfl) (by kernel_rfl) ?o13q ?o13y hHeld ?o13r
        case o13h => (simp only [List.getElem?_toArray, List.getElem?_cons_succ, List.getElem?_cons_zero]; rfl)
        case o13q => exact fun _ _ _ h => h
        case o13y => (refine Or.inl ⟨by first | kernel_rfl | rfl, ?_⟩; intro w hSw; (try dsimp only at hSw); have y1 := hSw.a.cell 1 rfl; have y2 := hSw.a.cell 2 rfl; have y3 := hSw.a.cell 3 rfl; have y4 := hSw.a.cell 4 rfl; have y5 := hSw.a.cell 5 rfl; have y6 := hSw.a.cell 6 rfl; have y7 := hSw.a.cell 7 rfl; have y8 := hSw.a.cell 8 rfl; go_simp <;> (try with_reducible rfl))
        try simp only [Act.put, List.setIfInBounds_toArray, List.set_cons_zero, List.set_cons_succ]
        refine wpAnyH_ready (rs := [16]) (by kernel_rfl) (by simp) ?_
        refine (AllReadyH.cons rfl (fun K hK => ?_) AllReadyH.nil)
        go_simp
        ((with_reducible refine (kM _).mono ?_); rintro e6 w6 ⟨rfl, hb6⟩)
        refine hK.out _ _ (hHeld.keep hb6) (fun hHeld => ?_)
        clear hK K
        try simp only [Act.put, List.setIfInBounds_toArray, List.set_cons_zero, List.set_cons_succ]
        refine wpAnyH_take (i := 17) (oi := ?o14o) (v := ?o14v) ?o14h (by kernel_rfl) (by kernel_rfl) (by kernel_rfl) ?o14q ?o14y hHeld ?o14r
        case o14h => (simp only [List.getElem?_toArray, List.getElem?_cons_succ, List.getElem?_cons_zero]; rfl)
        case o14q => exact fun _ _ _ h => h
        case o14y => (refine Or.inl ⟨by first | kernel_rfl | rfl, ?_⟩; intro w hSw; (try dsimp only at hSw); have y1 := hSw.a.cell 1 rfl; have y2 := hSw.a.cell 2 rfl; have y3 := hSw.a.cell 3 rfl; have y4 := hSw.a.cell 4 rfl; have y5 := hSw.a.cell 5 rfl; have y6 := hSw.a.cell 6 rfl; have y7 := hSw.a.cell 7 rfl; have y8 := hSw.a.cell 8 rfl; go_simp <;> (try with_reducible rfl))
        try simp only [Act.put, List.setIfInBounds_toArray, List.set_cons_zero, List.set_cons_succ]
        refine wpAnyH_take (i := 18) (oi := ?o15o) (v := ?o15v) ?o15h (by kernel_rfl) (by kernel_rfl) (by kernel_rfl) ?o15q ?o15y hHeld ?o15r
        case o15h => (simp only [List.getElem?_toArray, List.getElem?_cons_succ, List.getElem?_cons_zero]; rfl)
        case o15q => exact fun _ _ _ h => h
        case o15y => (refine Or.inl ⟨by first | kernel_rfl | rfl, ?_⟩; intro w hSw; (try dsimp only at hSw); have y1 := hSw.a.cell 1 rfl; have y2 := hSw.a.cell 2 rfl; have y3 := hSw.a.cell 3 rfl; have y4 := hSw.a.cell 4 rfl; have y5 := hSw.a.cell 5 rfl; have y6 := hSw.a.cell 6 rfl; have y7 := hSw.a.cell 7 rfl; have y8 := hSw.a.cell 8 rfl; go_simp <;> (try with_reducible rfl))
        try simp only [Act.put, List.setIfInBounds_toArray, List.set_cons_zero, List.set_cons_succ]
        refine wpAnyH_done (by kernel_rfl) ?_ _
        rw [HHEAD.out]
        have H3 := Lib.hid hHeld
        clear hHeld HHEAD
        obtain ⟨w9, hw9⟩ : ∃ x, x = w6 := ⟨_, rfl⟩
        rw [← hw9] at H3 ⊢
        clear hw9
        go_wp2
        go_loopw [5, 6] (fun s i wr => ∃ k : Nat, i = .int .i64 (k : Int) ∧ k ≤ 9 ∧ s = .string (tx (headL a ++ bksL a.b k)) ∧ HB w a wr) (fun _ i _ => 9 - (intOf i).toNat)
        case atStart => exact ⟨0, rfl, by omega, by rw [show bksL a.b 0 = [] from rfl, List.append_nil], H3.out⟩
        case round =>
          obtain ⟨k, rfl, hk, rfl, hR⟩ := hrel
          have HR := Lib.hid hR
          clear hR H3
          by_cases hk9 : k < 9
          · have hki : (k : Int) < 9 := by omega
            have hk0 : 0 ≤ (k : Int) := by omega
            have hwk : IntKind.i64.wrap ((k : Int) + 1) = (k : Int) + 1 := by rw [IntKind.wrap_i64]; omega
            have hyb := HBK.out k hk9
            have c1 := HR.out.a.bucket k hk9
            obtain ⟨m, hm⟩ : ∃ m : Nat, a.b k = (m : Int) := ⟨(a.b k).toNat, by omega⟩
            rw [hm] at c1 hyb
            have c1' := c1
            rw [Nat.add_comm] at c1'
            have hwm : IntKind.u64.wrap (m : Int) = (m : Int) := by rw [IntKind.wrap_u64]; omega
            obtain ⟨PB, hPB⟩ : ∃ x, tx (enc m) = x := ⟨_, rfl⟩
            have kp := fun W => refPut_is m PB W (by omega) (Lib.hid hPB)
            unfold TextDone at kp
            obtain ⟨T, hT⟩ : ∃ x, tx (headL a ++ bksL a.b k) = x := ⟨_, rfl⟩
            have HNX := Lib.hid (show T ++ PB = tx (headL a ++ bksL a.b (k + 1)) by rw [← hT, ← hPB, tx_app, List.append_assoc]; congr 1; rw [show bksL a.b (k + 1) = bksL a.b k ++ enc (a.b k).toNat from rfl, hm]; rfl)
            have qT : ¬ 9223372036854775807 < T.size + PB.size := by
              rw [← hT, ← hPB, tx_size, tx_size, List.length_append]
              have h1 := HHL.out
              have h2 := bksL_len a.b k (fun i hi => HBK.out i (by omega)) HN2.out
              have h3 := enc_len10 m (by omega)
              omega
            rw [hT]
            clear hT hPB hm hyb
            go_wp2_with (go_at_call 43; (with_reducible refine (kp _).mono ?_); rintro e5 w5 ⟨rfl, hb5⟩; (have H5 := Lib.hid (HR.out.keep hb5)); clear hb5)
            go_roundw
            case rel => exact ⟨k + 1, by go_num, by omega, by rw [HNX.out], H5.out⟩
            case measure => simp [intOf]; omega
          · obtain rfl : k = 9 := by omega
            rw [HS.out]
            go_wp2
            go_ret2
            exact ⟨rfl, HR.out.bel⟩
      ·
        go_simp
        first | have HSL := Lib.hid (SL.new w3 a.mn a.mx a.la 2) | have HSL := Lib.hid ((SL.new w2 a.mn a.mx a.la 2).below ((Below.refl _ _).drew))
        refine hK.out _ _ (hHeld.keep ((Below.refl _ _).alloc (Nat.le_refl _) _)) (fun hHeld => ?_)
        clear hK K
        try simp only [Act.put, List.setIfInBounds_toArray, List.set_cons_zero, List.set_cons_succ]
        refine wpAnyH_ready (rs := [3]) (by kernel_rfl) (by simp) ?_
        refine (AllReadyH.cons rfl (fun K hK => ?_) AllReadyH.nil)
        go_simp
        ((with_reducible refine (kB _).mono ?_); rintro e3 w3 ⟨rfl, hb3⟩; (have HB3 := Lib.hid hb3))
        refine hK.out _ _ (hHeld.keep hb3) (fun hHeld => ?_)
        clear hK K
        try simp only [Act.put, List.setIfInBounds_toArray, List.set_cons_zero, List.set_cons_succ]
        refine wpAnyH_take (i := 4) (oi := ?o16o) (v := ?o16v) ?o16h (by kernel_rfl) (by kernel_rfl) (by kernel_rfl) ?o16q ?o16y hHeld ?o16r
        case o16h => (simp only [List.getElem?_toArray, List.getElem?_cons_succ, List.getElem?_cons_zero]; rfl)
        case o16q => exact fun _ _ _ h => h
        case o16y => (refine Or.inl ⟨by first | kernel_rfl | rfl, ?_⟩; intro w hSw; (try dsimp only at hSw); have y1 := hSw.a.cell 1 rfl; have y2 := hSw.a.cell 2 rfl; have y3 := hSw.a.cell 3 rfl; have y4 := hSw.a.cell 4 rfl; have y5 := hSw.a.cell 5 rfl; have y6 := hSw.a.cell 6 rfl; have y7 := hSw.a.cell 7 rfl; have y8 := hSw.a.cell 8 rfl; go_simp <;> (try with_reducible rfl))
        try simp only [Act.put, List.setIfInBounds_toArray, List.set_cons_zero, List.set_cons_succ]
        refine wpAnyH_ready (rs := [12]) (by kernel_rfl) (by simp) ?_
        refine (AllReadyH.cons rfl (fun K hK => ?_) AllReadyH.nil)
        go_simp
        ((with_reducible refine (kA _ _ (by first | exact HSL.out | exact HSL.out.below HB3.out)).mono ?_); rintro e4 w4 ⟨rfl, hb4⟩)
        refine hK.out _ _ (hHeld.keep hb4) (fun hHeld => ?_)
        clear hK K
        try simp only [Act.put, List.setIfInBounds_toArray, List.set_cons_zero, List.set_cons_succ]
        refine wpAnyH_take (i := 13) (oi := ?o17o) (v := ?o17v) ?o17h (by kernel_rfl) (by kernel_rfl) (by kernel_rfl) ?o17q ?o17y hHeld ?o17r
        case o17h => (simp only [List.getElem?_toArray, List.getElem?_cons_succ, List.getElem?_cons_zero]; rfl)
        case o17q => exact fun _ _ _ h => h
        case o17y => (refine Or.inl ⟨by first | kernel_rfl | rfl, ?_⟩; intro w hSw; (try dsimp only at hSw); have y1 := hSw.a.cell 1 rfl; have y2 := hSw.a.cell 2 rfl; have y3 := hSw.a.cell 3 rfl; have y4 := hSw.a.cell 4 rfl; have y5 := hSw.a.cell 5 rfl; have y6 := hSw.a.cell 6 rfl; have y7 := hSw.a.cell 7 rfl; have y8 := hSw.a.cell 8 rfl; go_simp <;> (try with_reducible rfl))
        try simp only [Act.put, List.setIfInBounds_toArray, List.set_cons_zero, List.set_cons_succ]
        refine wpAnyH_ready (rs := [16]) (by kernel_rfl) (by simp) ?_
        refine (AllReadyH.cons rfl (fun K hK => ?_) AllReadyH.nil)
        go_simp
        ((with_reducible refine (kM _).mono ?_); rintro e6 w6 ⟨rfl, hb6⟩)
        refine hK.out _ _ (hHeld.keep hb6) (fun hHeld => ?_)
        clear hK K
        try simp only [Act.put, List.setIfInBounds_toArray, List.set_cons_zero, List.set_cons_succ]
        refine wpAnyH_take (i := 17) (oi := ?o18o) (v := ?o18v) ?o18h (by kernel_rfl) (by kernel_rfl) (by kernel_rfl) ?o18q ?o18y hHeld ?o18r
        case o18h => (simp only [List.getElem?_toArray, List.getElem?_cons_succ, List.getElem?_cons_zero]; rfl)
        case o18q => exact fun _ _ _ h => h
        case o18y => (refine Or.inl ⟨by first | kernel_rfl | rfl, ?_⟩; intro w hSw; (try dsimp only at hSw); have y1 := hSw.a.cell 1 rfl; have y2 := hSw.a.cell 2 rfl; have y3 := hSw.a.cell 3 rfl; have y4 := hSw.a.cell 4 rfl; have y5 := hSw.a.cell 5 rfl; have y6 := hSw.a.cell 6 rfl; have y7 := hSw.a.cell 7 rfl; have y8 := hSw.a.cell 8 rfl; go_simp <;> (try with_reducible rfl))
        try simp only [Act.put, List.setIfInBounds_toArray, List.set_cons_zero, List.set_cons_succ]
        refine wpAnyH_take (i := 18) (oi := ?o19o) (v := ?o19v) ?o19h (by kernel_rfl) (by kernel_rfl) (by kernel_rfl) ?o19q ?o19y hHeld ?o19r
        case o19h => (simp only [List.getElem?_toArray, List.getElem?_cons_succ, List.getElem?_cons_zero]; rfl)
        case o19q => exact fun _ _ _ h => h
        case o19y => (refine Or.inl ⟨by first | kernel_rfl | rfl, ?_⟩; intro w hSw; (try dsimp only at hSw); have y1 := hSw.a.cell 1 rfl; have y2 := hSw.a.cell 2 rfl; have y3 := hSw.a.cell 3 rfl; have y4 := hSw.a.cell 4 rfl; have y5 := hSw.a.cell 5 rfl; have y6 := hSw.a.cell 6 rfl; have y7 := hSw.a.cell 7 rfl; have y8 := hSw.a.cell 8 rfl; go_simp <;> (try with_reducible rfl))
        try simp only [Act.put, List.setIfInBounds_toArray, List.set_cons_zero, List.set_cons_succ]
        refine wpAnyH_done (by kernel_rfl) ?_ _
        rw [HHEAD.out]
        have H3 := Lib.hid hHeld
        clear hHeld HHEAD
        obtain ⟨w9, hw9⟩ : ∃ x, x = w6 := ⟨_, rfl⟩
        rw [← hw9] at H3 ⊢
        clear hw9
        go_wp2
        go_loopw [5, 6] (fun s i wr => ∃ k : Nat, i = .int .i64 (k : Int) ∧ k ≤ 9 ∧ s = .string (tx (headL a ++ bksL a.b k)) ∧ HB w a wr) (fun _ i _ => 9 - (intOf i).toNat)
        case atStart => exact ⟨0, rfl, by omega, by rw [show bksL a.b 0 = [] from rfl, List.append_nil], H3.out⟩
        case round =>
          obtain ⟨k, rfl, hk, rfl, hR⟩ := hrel
          have HR := Lib.hid hR
          clear hR H3
          by_cases hk9 : k < 9
          · have hki : (k : Int) < 9 := by omega
            have hk0 : 0 ≤ (k : Int) := by omega
            have hwk : IntKind.i64.wrap ((k : Int) + 1) = (k : Int) + 1 := by rw [IntKind.wrap_i64]; omega
            have hyb := HBK.out k hk9
            have c1 := HR.out.a.bucket k hk9
            obtain ⟨m, hm⟩ : ∃ m : Nat, a.b k = (m : Int) := ⟨(a.b k).toNat, by omega⟩
            rw [hm] at c1 hyb
            have c1' := c1
            rw [Nat.add_comm] at c1'
            have hwm : IntKind.u64.wrap (m : Int) = (m : Int) := by rw [IntKind.wrap_u64]; omega
            obtain ⟨PB, hPB⟩ : ∃ x, tx (enc m) = x := ⟨_, rfl⟩
            have kp := fun W => refPut_is m PB W (by omega) (Lib.hid hPB)
            unfold TextDone at kp
            obtain ⟨T, hT⟩ : ∃ x, tx (headL a ++ bksL a.b k) = x := ⟨_, rfl⟩
            have HNX := Lib.hid (show T ++ PB = tx (headL a ++ bksL a.b (k + 1)) by rw [← hT, ← hPB, tx_app, List.append_assoc]; congr 1; rw [show bksL a.b (k + 1) = bksL a.b k ++ enc (a.b k).toNat from rfl, hm]; rfl)
            have qT : ¬ 9223372036854775807 < T.size + PB.size := by
              rw [← hT, ← hPB, tx_size, tx_size, List.length_append]
              have h1 := HHL.out
              have h2 := bksL_len a.b k (fun i hi => HBK.out i (by omega)) HN2.out
              have h3 := enc_len10 m (by omega)
              omega
            rw [hT]
            clear hT hPB hm hyb
            go_wp2_with (go_at_call 43; (with_reducible refine (kp _).mono ?_); rintro e5 w5 ⟨rfl, hb5⟩; (have H5 := Lib.hid (HR.out.keep hb5)); clear hb5)
            go_roundw
            case rel => exact ⟨k + 1, by go_num, by omega, by rw [HNX.out], H5.out⟩
            case measure => simp [intOf]; omega
          · obtain rfl : k = 9 := by omega
            rw [HS.out]
            go_wp2
            go_ret2
            exact ⟨rfl, HR.out.bel⟩
end Go.Proofs.Ytipjhlabcbkgjaa.Ag

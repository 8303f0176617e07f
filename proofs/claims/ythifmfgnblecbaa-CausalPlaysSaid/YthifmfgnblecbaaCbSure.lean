/- New, Sure. -/
import Derived.Test.YthifmfgnblecbaaCbHas
import Derived.Deep.LoopGhost
import Derived.Deep.CutBlock
import Derived.Deep.CutRange
set_option maxRecDepth 20000
set_option linter.unusedSimpArgs false
set_option linter.unusedVariables false
namespace Go.Proofs.Ythifmfgnblecbaa.Og.Cb
open Go.RowKit Go.Maps Go.Proofs.Ythifmfgnblecbaa.Vi Go.Proofs.Ythifmfgnblecbaa.Mk

theorem ex_sure (L : List Rec) (s : Int) (hq : ∀ q, hasB L s q = true → q ≤ 1099511627776) : ∀ (m : Nat) (a : Int), 1099511627776 - a ≤ (m : Int) → ∃ n, IsSure L s a n := by
  intro m
  induction m with
  | zero =>
    intro a ha
    refine ⟨a, Int.le_refl _, fun j h1 h2 => by omega, ?_⟩
    cases e : hasB L s (a + 1) with
    | false => rfl
    | true => have := hq _ e; omega
  | succ m ih =>
    intro a ha
    cases e : hasB L s (a + 1) with
    | false => exact ⟨a, Int.le_refl _, fun j h1 h2 => by omega, e⟩
    | true =>
      obtain ⟨n, h1, h2, h3⟩ := ih (a + 1) (by omega)
      refine ⟨n, by omega, fun j g1 g2 => ?_, h3⟩
      by_cases ej : j = a + 1
      · rw [ej]; exact e
      · exact h2 j (by omega) g2
theorem sure_f {S : CS} (h : CGood S) : ∃ f : Nat → Int, ∀ i : Nat, IsSure S.L (i : Int) (atL S.out (i : Int)) (f i) :=
  ⟨fun i => Classical.choose (ex_sure S.L (i : Int) (fun q hq => (h.hasq hq).2.2.1) 1099511627776 (atL S.out (i : Int)) (by have := atL_bounds S.out (i : Int); omega)), fun i => Classical.choose_spec (ex_sure S.L (i : Int) (fun q hq => (h.hasq hq).2.2.1) 1099511627776 (atL S.out (i : Int)) (by have := atL_bounds S.out (i : Int); omega))⟩
def SureDone (S : CS) (w : World) (e : Ending) (w' : World) : Prop := ∃ v K, e = .returned v ∧ Ns w' v K ∧ SureV S K ∧ Below w.heap.size w w'
theorem N2.set1 {w : World} {g : Nat} {s q : Int} (h : N2 w g s q) (q' : Int) : N2 (w.setCell ⟨g, 1, none⟩ (.int .i64 q')) g s q' := by
  have hl := h.lt
  have h0 := h.c0
  have h1 := h.c1
  exact ⟨by simp [go_sem, h0], by simp [go_sem, h1], by simpa using h.f0, by simpa using h.f1, by simpa using hl⟩
structure SuI (w wr : World) (N : Nat) (k : Nat) (n : Int) : Prop where
  nm : N2 wr N (k : Int) (n + 1)
  bel : Below w.heap.size w wr
  lo : w.heap.size ≤ N
theorem SuI.ns {w w5 wr : World} {N k : Nat} {n : Int} (h : SuI w5 wr N k n) {v : Value} {l : List Int} (hv : Ns w5 v l) : Ns wr v l := Ns.later hv h.bel
set_option maxHeartbeats 4000000 in
theorem sure_is {w : World} {p : Option Addr} {mv : Option Nat} {S : CS} (hR : Rb w p mv S) : Calls Try.prog 20 #[.pointer p] w (SureDone S w) := by
  obtain ⟨f, hf⟩ := sure_f hR.good
  have HR := Lib.hid hR
  have HF := Lib.hid hf
  have H0 := Lib.hid (show OvJ w w f 0 (.slice none 0 0) from ⟨by rw [part_zero]; exact (Nums.nil w none 0).mono (Nat.zero_le _) (Nat.le_refl _), Below.refl _ _, fun q hq => by cases hq⟩)
  clear hR hf
  go_enter Try.func20, Try.ntmps20
  go_wp2
  go_loopw [3, 6] (fun v i wr => ∃ k : Nat, k ≤ 8 ∧ i = .int .i64 (k : Int) ∧ Hid (OvJ w wr f k v)) (fun _ i _ => 8 - (intOf i).toNat)
  case atStart => exact ⟨0, by omega, rfl, H0⟩
  case round =>
    obtain ⟨k, hk, rfl, HJ⟩ := hrel
    clear H0
    obtain ⟨w3, hw3⟩ : ∃ x, x = wr := ⟨_, rfl⟩
    subst hw3
    obtain ⟨a3, c3, e3⟩ := HJ.out.ns.slice
    by_cases hk8 : k < 8
    · have hlt2 : (k : Int) < 8 := by omega
      have hI : I64 (k : Int) := by unfold I64; omega
      have HI := Lib.hid hI
      have kf := follows_is (HR.out.later HJ.out.bel) (k : Int) hI
      obtain ⟨s1, s2, s3⟩ := HF.out k
      obtain ⟨a, ha⟩ : ∃ z, atL S.out (k : Int) = z := ⟨_, rfl⟩
      have hab := atL_bounds S.out (k : Int)
      have hfb := (HF.out k).cl HR.out.good
      obtain ⟨n, hn⟩ : ∃ z, f k = z := ⟨_, rfl⟩
      rw [ha] at kf s1 s2 hab
      rw [hn] at s1 s2 s3 hfb
      have HA := Lib.hid s2
      have HB := Lib.hid s3
      have HN := Lib.hid hn
      have HS := Lib.hid (part_step f hk8)
      have HPF := Lib.hid HJ.out.ns
      clear s2 s3 hn ha hI
      unfold kV at kf
      subst e3
      go_wp2_with (go_at_call 32; (with_reducible refine kf.mono ?_); rintro e w4 ⟨rfl, hb4⟩; (have HB4 := Lib.hid hb4); clear hb4)
      have hn5 : N2 (w4.alloc (nbox (k : Int) (a + 1))) w4.heap.size (k : Int) (a + 1) := N2.of (new_block (Below.refl _ _))
      have HW := Lib.hid (bel_new (bel_next HJ.out.bel HB4.out) (nbox (k : Int) (a + 1)))
      have HS5 := Lib.hid ((Below.refl w3.heap.size w3).trans (bel_new HB4.out (nbox (k : Int) (a + 1))))
      unfold nbox at hn5 HW HS5
      obtain ⟨w5, hw5⟩ : ∃ x, w4.alloc (.cells #[.int .i64 (k : Int), .int .i64 (a + 1)] 61) = x := ⟨_, rfl⟩
      obtain ⟨N, hN9⟩ : ∃ z, w4.heap.size = z := ⟨_, rfl⟩
      have HNN := Lib.hid (show w3.heap.size ≤ N by rw [← hN9]; exact HB4.out.size)
      rw [hw5] at hn5 HW HS5 ⊢
      rw [hN9] at hn5 ⊢
      have HI0 := Lib.hid (show SuI w3 w5 N k a from ⟨hn5, HS5.out, HNN.out⟩)
      clear hw5 hN9 hn5 kf
      go_loopg [] (n - a).toNat (fun g wr => ∃ j : Int, a ≤ j ∧ j + (g : Int) = n ∧ Hid (SuI w3 wr N k j))
      case atStart => exact ⟨a, Int.le_refl _, by omega, HI0⟩
      case round =>
        obtain ⟨j, hj1, hj2, HJ2⟩ := hrel
        clear HI0
        obtain ⟨w7, hw7⟩ : ∃ x, x = wr := ⟨_, rfl⟩
        subst hw7
        have kh := has_is (HR.out.later (bel_next HJ.out.bel HJ2.out.bel)) (k : Int) (j + 1) HI.out (by unfold I64; omega)
        obtain ⟨n0, n1, nf0, nf1, nlt⟩ := HJ2.out.nm
        unfold kV at kh
        cases gk with
        | zero =>
          obtain rfl : j = n := by omega
          have hw : IntKind.i64.wrap (j + 1 - 1) = j := by rw [IntKind.wrap_i64]; omega
          have hw2 : j + 1 - 1 = j := by omega
          have kw := fun (W : World) (h : Below w7.heap.size w7 W) => withF_is (.slice a3 (vec (part f k)).length c3) (vec (part f k)) (k : Int) j _ W (Ns.later (Ns.later HPF.out HJ2.out.bel) h)
          rw [HB.out] at kh
          rw [HN.out] at HS
          clear hj1 hj2
          go_wp2_with (first
            | (go_at_call 39; (with_reducible refine kh.mono ?_); rintro e w8 ⟨rfl, hb8⟩; (have HB8 := Lib.hid hb8); (have m1 := (hb8.cell nlt).trans n1); clear hb8)
            | (go_at_call 35; (with_reducible refine (kw _ HB8.out).mono ?_); rintro e w9 ⟨v9, rfl, hn9, hb9, hf9⟩; (have HJ9 := Lib.hid (show OvJ w w9 f (k + 1) v9 from ⟨by rw [← HS.out]; exact hn9, bel_next (bel_next (bel_next HJ.out.bel HJ2.out.bel) HB8.out) hb9, fun q hq => ⟨by have h1 := (hf9 q hq).1; have h2 := HB8.out.size; have h3 := HJ2.out.bel.size; have h4 := HJ.out.bel.size; omega, (hf9 q hq).2⟩⟩)); clear hn9 hb9 hf9))
          go_roundw
          case rel => exact ⟨k + 1, by omega, by go_num, HJ9⟩
          case measure => simp [intOf]; omega
        | succ g =>
          have hw : IntKind.i64.wrap (j + 1 + 1) = j + 1 + 1 := by rw [IntKind.wrap_i64]; omega
          rw [HA.out (j + 1) (by omega) (by omega)] at kh
          have hlo := HJ2.out.lo
          go_wp2_with (go_at_call 39; (with_reducible refine kh.mono ?_); rintro e w8 ⟨rfl, hb8⟩; (have HB8 := Lib.hid hb8); (have m0 := (hb8.cell nlt).trans n0); (have m1 := (hb8.cell nlt).trans n1); (have HN8 := Lib.hid (HJ2.out.nm.later hb8)); (have mf1 := HN8.out.f1); clear hb8)
          go_roundg g
          case measure => omega
          case rel => exact ⟨j + 1, by omega, by omega, Lib.hid ⟨HN8.out.set1 _, (bel_next HJ2.out.bel HB8.out).setCell (by dsimp only; omega) _, HJ2.out.lo⟩⟩
    · obtain rfl : k = 8 := by omega
      go_wp2
      go_ret
      refine ⟨_, _, rfl, HJ.out.ns, ⟨f, ?_, fun i _ => HF.out i⟩, HJ.out.bel⟩
      rw [part_all]
      exact vec_congr fun i hi => cl_in ((HF.out i).cl HR.out.good).1 ((HF.out i).cl HR.out.good).2
theorem own_lt9 {w : World} {v : Value} {l : List Int} (h : Ns w v l) (hd : l ≠ []) : ∀ q, v.ownBlock = some q → q < w.heap.size := by
  obtain ⟨⟨a, c, e, h2⟩, _⟩ := h
  rcases h2 with h2 | ⟨b, off, e2, hb, _⟩
  · exact absurd h2 hd
  · intro q hq
    rw [e, e2] at hq
    injection hq with hq
    rw [← hq]; exact hb
set_option maxHeartbeats 1000000 in
theorem joinF_is (v1 v2 : Value) (l1 l2 : List Int) (B1 B2 : Nat) (w : World) (h1 : Nums w B1 v1 l1) (h2 : Nums w B2 v2 l2) : Calls Try.prog 30 #[v1, v2] w (VNew (joinL l1 l2) w) := by
  obtain ⟨a1, cap1, rfl⟩ := h1.slice
  obtain ⟨a2, cap2, rfl⟩ := h2.slice
  obtain ⟨W, hW⟩ : ∃ W, (w.alloc (.cells #[.slice a1 l1.length cap1] 22)).alloc (.cells #[.slice a2 l2.length cap2] 22) = W := ⟨_, rfl⟩
  have hBW : Below w.heap.size w W := by rw [← hW]; exact ((Below.refl _ _).alloc (Nat.le_refl _) _).alloc (by simp) _
  have hs : W.heap.size = w.heap.size + 1 + 1 := by rw [← hW]; simp
  have hc : W.cell? ⟨w.heap.size, 0, none⟩ = some (.slice a1 l1.length cap1) := by rw [← hW]; simp [go_sem]
  have hd : W.cell? ⟨w.heap.size + 1, 0, none⟩ = some (.slice a2 l2.length cap2) := by rw [← hW]; simp [go_sem]
  have hN := h1.next hBW
  have hM := h2.next hBW
  have hr := h1.room
  have hr2 := h2.room
  have hK := vector_join (.pointer (some ⟨w.heap.size, 0, none⟩)) (.pointer (some ⟨w.heap.size + 1, 0, none⟩)) (fun i => max (atL l1 (i : Int)) (atL l2 (i : Int))) (fun _ u => Below W.heap.size W u) w.heap.size W (by omega) (Below.refl _ _) (fun _ _ _ a b c => keepJ a b c)
    (fun k hk u hJ hz => (join1_any k w.heap.size (w.heap.size + 1) _ _ l1 l2 B1 B2 u ((hJ.cell (p := ⟨w.heap.size, 0, none⟩) (by show w.heap.size < _; omega)).trans hc) ((hJ.cell (p := ⟨w.heap.size + 1, 0, none⟩) (by show w.heap.size + 1 < _; omega)).trans hd) (hN.below (hJ.mono (by omega))) (hM.below (hJ.mono (by omega))) hk).mono fun e u' ⟨e1, n, e2⟩ => by subst e2; exact ⟨e1, hJ.trans ((below_drawn _ _).mono (by omega)), But.of (below_drawn _ _)⟩)
  rw [cl_fit (fun i => by have := atL_bounds l1 (i : Int); have := atL_bounds l2 (i : Int); omega)] at hK
  subst hW
  clear h1 h2 hN hM hr hr2 hc hd hs
  have hmf := makeFunc_run
  go_enter Try.func30, Try.ntmps30
  go_wp2_with (go_at_call 48; (with_reducible refine hK.mono ?_); rintro e w1 ⟨rfl, hE, hJ⟩)
  go_ret
  have hsz := hE.room
  simp only [World.size_alloc] at hE hsz
  exact ⟨_, rfl, nums_of_eight hE (join_fit l1 l2), hBW.trans (hJ.mono hBW.size), fun q hq => by injection hq with hq; dsimp only at hq; subst hq; exact ⟨by omega, hsz⟩⟩
def NewDone (room : Int) (l : List Int) (w : World) (e : Ending) (w' : World) : Prop := ∃ b, e = .returned (.pointer (some ⟨b, 0, none⟩)) ∧ w.heap.size ≤ b ∧ (∀ B, B ≤ w.heap.size → Buf w' B b (newC room l) (fun q => w.heap.size ≤ q ∧ q < w'.heap.size)) ∧ Below w.heap.size w w'
theorem join_nil (l : List Int) : joinL l [] = plainL l := by
  unfold joinL plainL
  refine vec_congr fun i hi => ?_
  have := atL_bounds l (i : Int)
  rw [atL_nil]
  omega
theorem buf_new {w : World} {ov : Value} {K : List Int} {room : Int} {C : Nat} (hK : Ns w ov K) (hG : CGood ⟨room, K, []⟩) (hq : K ≠ [] → ∀ q, ov.ownBlock = some q → C ≤ q) (hC : C ≤ w.heap.size) {B : Nat} (hB : B ≤ C) : Buf (w.alloc (.cells #[.int .i64 room, ov, .map none] 55)) B w.heap.size ⟨room, K, []⟩ (fun q => C ≤ q ∧ q < (w.alloc (.cells #[.int .i64 room, ov, .map none] 55)).heap.size) := by
  have hal := (Below.refl w.heap.size w).alloc (Nat.le_refl _) (.cells #[.int .i64 room, ov, .map none] 55)
  refine ⟨none, ov, ⟨new_block (Below.refl _ _), Ns.later hK hal, fun hn q hq' => ?_, fun q hq => ⟨by omega, hq.2⟩, ⟨hC, by simp⟩, fun _ => rfl, fun m e => (by cases e), hG⟩⟩
  have h1 := hq hn q hq'
  have h2 := own_lt9 hK hn q hq'
  exact ⟨⟨h1, by simp; omega⟩, by omega, by simp⟩
set_option maxHeartbeats 1000000 in
theorem new_is (room : Int) (v : Value) (l : List Int) (w : World) (h : Ns w v l) : Calls Try.prog 9 #[.int .i64 room, v] w (NewDone room l w) := by
  have hn : Ns w (.slice none 0 0) [] := (Nums.nil w none 0).mono (Nat.zero_le _) (Nat.le_refl _)
  have kj := joinF_is v (.slice none 0 0) l [] _ _ w h hn
  rw [join_nil] at kj
  have HG := Lib.hid (newC_good room l)
  obtain ⟨a, c, rfl⟩ := h.slice
  clear h hn
  go_enter Try.func9, Try.ntmps9
  go_wp2_with (go_at_call 30; (with_reducible refine kj.mono ?_); rintro e w2 ⟨v2, rfl, hn2, hb2, hf2⟩; (obtain ⟨a2, c2, rfl⟩ := hn2.slice); (have HN2 := Lib.hid hn2); (have HB2 := Lib.hid hb2); (have HF2 := Lib.hid hf2); clear hn2 hb2 hf2)
  go_ret
  refine ⟨_, rfl, HB2.out.size, fun B hB => ?_, bel_new HB2.out _⟩
  exact buf_new (C := w.heap.size) HN2.out HG.out (fun _ q hq => (HF2.out q hq).1) HB2.out.size hB
end Go.Proofs.Ythifmfgnblecbaa.Og.Cb

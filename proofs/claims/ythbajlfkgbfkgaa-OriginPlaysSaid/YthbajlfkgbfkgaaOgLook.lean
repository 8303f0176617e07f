/- beyond, Know, Base, Get. -/
import Derived.Test.YthbajlfkgbfkgaaOgOwn
set_option maxRecDepth 20000
set_option linter.unusedSimpArgs false
set_option linter.unusedVariables false
namespace Go.Proofs.Ythbajlfkgbfkgaa.Og
open Go.RowKit Go.Proofs.Ythbajlfkgbfkgaa.Vi Go.Proofs.Ythbajlfkgbfkgaa.Mk

theorem at_quietN (v : Value) (l : List Int) (s : Int) (u : World) (n : Nat) (h : Ns u v l) (hs : -9223372036854775808 ≤ s ∧ s ≤ 9223372036854775807) :
    Calls Try.prog 36 #[v, .int .i64 s] (u.drewN n) fun e w' => e = .returned (.int .i64 (atL l s)) ∧ w' = u.drewN n := at_quiet v l s _ u n h hs
set_option maxHeartbeats 1000000 in
theorem beyond_is (v : Value) (l : List Int) (r : Rec) (dv : Value) (w : World) (h : Ns w v l) (hs : -9223372036854775808 ≤ r.st.s ∧ r.st.s ≤ 9223372036854775807) : Calls Try.prog 39 #[v, recV r dv] w fun e w' => e = .returned (.bool (beyB l r)) ∧ Below w.heap.size w w' := by
  unfold recV
  have hal := (Below.refl w.heap.size w).alloc (Nat.le_refl _) (.cells #[.int .i64 r.k, .string r.s, .int .i64 r.t, .int .i64 r.v, .int .i64 r.tier, .int .i64 r.st.c, .int .i64 r.st.s, .int .i64 r.st.q, dv] 33)
  have ka := fun n => at_quietN v l r.st.s _ n (Ns.later h hal) hs
  obtain ⟨y, hy⟩ : ∃ y, atL l r.st.s = y := ⟨_, rfl⟩
  have hb : beyB l r = decide (y < r.st.q) := by unfold beyB; rw [hy]
  rw [hy] at ka
  have HAL := Lib.hid hal
  rw [hb]
  clear h hy hal hs hb
  go_enter Try.func39, Try.ntmps39
  go_wp2_with fail
  go_quiet ((go_at_call 36; with_reducible refine Calls.quiet_of_same (ka _)))
  go_wp2
  go_ret
  exact ⟨rfl, below_drewN HAL.out _⟩
/-! Know. -/
theorem know_nil (w : World) : Calls Try.prog 26 #[.pointer none] w fun e w' => e = .returned (.slice none 0 0) ∧ w = w' := by
  go_enter Try.func26, Try.ntmps26
  go_wp2
  go_ret
  exact ⟨rfl, rfl⟩
theorem knowO_is {w : World} {B b : Nat} {kv v : Value} {zs : List Rd} {S : OS} (h : OAt w B b kv v zs S) : Calls Try.prog 26 #[.pointer (some ⟨b, 0, none⟩)] w (VNew S.know w) := by
  have c1 := h.c1
  have kp := vec_size (fun i => atL S.know (i : Int))
  have ks := sclone_is kv S.know w h.kn (by have e := h.good.know_plain; unfold plainL at e; rw [← e]; omega)
  obtain ⟨a, c, rfl⟩ := h.kn.slice
  clear h kp
  go_enter Try.func26, Try.ntmps26
  go_wp2_with (go_at_call 48; (with_reducible refine ks.mono ?_); rintro e w1 ⟨v1, rfl, hn, hb, hf⟩; (have HN := Lib.hid hn); (have HB := Lib.hid hb); (have HF := Lib.hid hf); clear hn hb hf)
  go_ret
  exact ⟨_, rfl, HN.out, HB.out, HF.out⟩
theorem know_is {w : World} {B b : Nat} {S : OS} {F : Nat → Prop} (h : LogAt w B b S F) : Calls Try.prog 26 #[.pointer (some ⟨b, 0, none⟩)] w (VNew S.know w) := by
  obtain ⟨⟨kv, v, zs, hO, hf⟩, hF⟩ := h
  exact knowO_is hO
/-! Base. -/
theorem firstQ_hit {l : List Rec} {x z : Int} {k : Nat} (h : ∀ j (hj : j < l.length), j < k → l[j].st.s ≠ x) (hk : k < l.length) (e : l[k].st.s = x) : firstQ l x z = l[k].st.q - 1 := by
  induction l generalizing k with
  | nil => simp at hk
  | cons r t ih =>
    unfold firstQ
    cases k with
    | zero => rw [if_pos (by simpa using e)]; rfl
    | succ k =>
      rw [if_neg (show ¬ r.st.s = x from h 0 (by simp) (by omega))]
      exact ih (fun j hj hjk => h (j + 1) (by simpa using hj) (by omega)) (by simpa using hk) e
theorem firstQ_miss {l : List Rec} {x z : Int} (h : ∀ j (hj : j < l.length), l[j].st.s ≠ x) : firstQ l x z = z := by
  induction l with
  | nil => rfl
  | cons r t ih =>
    unfold firstQ
    rw [if_neg (show ¬ r.st.s = x from h 0 (by simp))]
    exact ih fun j hj => h (j + 1) (by simpa using hj)
structure B1J (u wr : World) (zs : List Rd) (x : Int) (k : Nat) : Prop where
  bel : Below u.heap.size u wr
  no : ∀ j (hj : j < zs.length), j < k → zs[j].r.st.s ≠ x
set_option maxHeartbeats 2000000 in
theorem base1_is (p : Option Addr) (b1 b2 B : Nat) (v kv : Value) (zs : List Rd) (K : List Int) (x : Nat) (u : World) (hall : ∀ u', Below u.heap.size u u' → Calls Try.prog 38 #[.pointer p] u' fun e w' => e = .returned v ∧ u' = w')
    (c1 : u.cell? ⟨b1, 0, none⟩ = some (.pointer p)) (c2 : u.cell? ⟨b2, 0, none⟩ = some kv) (hR : ORow u B v zs) (hK : Ns u kv K) (hq : ∀ y ∈ zs, 1 ≤ y.r.st.q ∧ y.r.st.q ≤ 1099511627776) (hl : zs.length ≤ 1000000) (hx : x < 8) :
    Calls Try.prog 49 #[.int .i64 (x : Int), .pointer (some ⟨b1, 0, none⟩), .pointer (some ⟨b2, 0, none⟩)] u fun e u' => e = .returned (.int .i64 (firstQ (zs.map Rd.r) (x : Int) (atL K (x : Int)))) ∧ Below u.heap.size u u' := by
  have ka := hall u (Below.refl _ _)
  have ks := fun (u' : World) (h : Below u.heap.size u u') => atN kv K (x : Int) u' (Ns.later hK h) (by omega)
  have hb2 := cell_lt c2
  have HC2 := Lib.hid c2
  have hHIT := fun (k : Nat) (h : ∀ j (hj : j < zs.length), j < k → zs[j].r.st.s ≠ (x : Int)) (hk : k < zs.length) (e : zs[k].r.st.s = (x : Int)) => firstQ_hit (l := zs.map Rd.r) (x := (x : Int)) (z := atL K (x : Int)) (k := k) (fun j hj hjk => by rw [List.getElem_map]; exact h j (by simpa using hj) hjk) (by simpa using hk) (by rw [List.getElem_map]; exact e)
  have hMISS := fun (h : ∀ j (hj : j < zs.length), zs[j].r.st.s ≠ (x : Int)) => firstQ_miss (l := zs.map Rd.r) (x := (x : Int)) (z := atL K (x : Int)) (fun j hj => by rw [List.getElem_map]; exact h j (by simpa using hj))
  have HHIT := Lib.hid hHIT
  have HMISS := Lib.hid hMISS
  obtain ⟨y, hy⟩ : ∃ y, atL K (x : Int) = y := ⟨_, rfl⟩
  rw [hy] at ks HHIT HMISS ⊢
  obtain ⟨a0, c0, rfl⟩ := hR.slice
  obtain ⟨n, hn⟩ : ∃ n, zs.length = n := ⟨_, rfl⟩
  have HR := Lib.hid hR
  have HN := Lib.hid hn
  rw [hn] at ka hl HR
  have HX := Lib.hid hx
  have H0 := Lib.hid (show B1J u u zs (x : Int) 0 from ⟨Below.refl _ _, fun j _ h => absurd h (Nat.not_lt_zero _)⟩)
  have HQ := Lib.hid hq
  clear hHIT hMISS hall hR hK hn hy hx c2 hq
  go_enter Try.func49, Try.ntmps49
  go_wp2_with (go_at_call 38; (with_reducible refine ka.mono ?_); rintro e w1 ⟨rfl, rfl⟩)
  go_loopw [10] (fun i wr => ∃ k : Nat, k ≤ n ∧ i = .int .i64 (k : Int) ∧ Hid (B1J u wr zs (x : Int) k)) (fun i _ => n - (intOf i).toNat)
  case atStart => exact ⟨0, by omega, rfl, H0⟩
  case round =>
    obtain ⟨k, hk, rfl, HJ⟩ := hrel
    clear H0
    by_cases hlt : k < n
    · have hlt2 : (k : Int) < (n : Int) := by omega
      have hkz : k < zs.length := by rw [HN.out]; exact hlt
      obtain ⟨g, off, rfl, -, -, hgl, hcs⟩ := ORow.cell (zs := zs) (n := n) (by exact HR.out) (by omega)
      have hr9 := R9.later (hcs k hkz) HJ.out.bel
      obtain ⟨z, hz⟩ : ∃ z, zs[k] = z := ⟨_, rfl⟩
      rw [hz] at hr9
      have hqz : 1 ≤ z.r.st.q ∧ z.r.st.q ≤ 1099511627776 := by rw [← hz]; exact HQ.out _ (List.getElem_mem hkz)
      have hw1 : IntKind.i64.wrap (z.r.st.q - 1) = z.r.st.q - 1 := by rw [IntKind.wrap_i64]; omega
      obtain ⟨⟨zk, zss, zt, zv, ztier, ⟨zc, zst, zq⟩, zd⟩, za, zcc⟩ := z
      dsimp only at *
      obtain ⟨x0, x1, x2, x3, x4, x5, x6, x7, x8⟩ := hr9
      dsimp only at *
      have HZ := Lib.hid hz
      have hal : Below u.heap.size u (wr.alloc (.cells #[.int .i64 zk, .string zss, .int .i64 zt, .int .i64 zv, .int .i64 ztier, .int .i64 zc, .int .i64 zst, .int .i64 zq, .slice za zd.length zcc] 33)) := bel_new HJ.out.bel _
      have HAL := Lib.hid hal
      clear hcs hz hqz hal
      by_cases he : zst = (x : Int)
      · have hq1 : (zst == (x : Int)) = true := by simpa using he
        have HE := Lib.hid (show zs[k].r.st.s = (x : Int) by rw [HZ.out]; exact he)
        clear he
        go_wp2
        go_ret
        have e := HHIT.out k HJ.out.no hkz HE.out
        rw [List.getElem_map, HZ.out] at e
        exact ⟨by rw [e]; rfl, HAL.out⟩
      · have hq1 : (zst == (x : Int)) = false := by simpa using he
        have HE := Lib.hid (show zs[k].r.st.s ≠ (x : Int) by rw [HZ.out]; exact he)
        clear he
        go_wp2
        go_roundw
        case rel =>
          refine ⟨k + 1, by omega, by go_num, Lib.hid ⟨HAL.out, fun j hj h => ?_⟩⟩
          by_cases ej : j = k
          · subst ej; exact HE.out
          · exact HJ.out.no j hj (by omega)
        case measure => simp [intOf]; omega
    · obtain rfl : k = n := by omega
      have hlt2 : ¬ (k : Int) < (k : Int) := by omega
      have c2 : wr.cell? ⟨b2, 0, none⟩ = some kv := (HJ.out.bel.cell (p := ⟨b2, 0, none⟩) hb2).trans HC2.out
      have ks := ks wr HJ.out.bel
      have HE := Lib.hid (HMISS.out (fun j hj => HJ.out.no j hj (by rw [← HN.out]; exact hj)))
      clear hlt
      go_wp2_with (go_at_call 36; (with_reducible refine ks.mono ?_); rintro e w2 ⟨rfl, rfl⟩)
      go_ret
      exact ⟨by rw [HE.out]; rfl, HJ.out.bel⟩
set_option maxHeartbeats 1000000 in
theorem baseO_is {w : World} {B b : Nat} {kv v : Value} {zs : List Rd} {S : OS} (h : OAt w B b kv v zs S) : Calls Try.prog 27 #[.pointer (some ⟨b, 0, none⟩)] w (VNew S.base w) := by
  have hal := (Below.refl w.heap.size w).alloc (Nat.le_refl _) (.cells #[.pointer (some ⟨b, 0, none⟩)] 26)
  have HAL := Lib.hid hal
  have kk := knowO_is (h.later hal)
  have hmf := makeFunc_run
  have HO := Lib.hid h
  have hok : ∀ y ∈ zs, 1 ≤ y.r.st.q ∧ y.r.st.q ≤ 1099511627776 := fun y hy => by
    have := Rec.ok_parts (h.good.ok y.r (by rw [← h.rs]; exact List.mem_map_of_mem hy))
    omega
  have HOK := Lib.hid hok
  clear h hal hok
  go_enter Try.func27, Try.ntmps27
  go_wp2_with (first
    | (go_at_call 26; (with_reducible refine kk.mono ?_); rintro e w1 ⟨v1, rfl, hn1, hb1, hf1⟩
       have HB1 := Lib.hid hb1
       have HN1 := Lib.hid hn1
       obtain ⟨a1, c1, rfl⟩ := hn1.slice
       have hal1 := (Below.refl w1.heap.size w1).alloc (Nat.le_refl _) (.cells #[.slice a1 S.know.length c1] 22)
       have HAL1 := Lib.hid hal1
       have hcb : (w1.alloc (.cells #[.slice a1 S.know.length c1] 22)).cell? ⟨w.heap.size, 0, none⟩ = some (.pointer (some ⟨b, 0, none⟩)) := by
         have hlt : w.heap.size < w1.heap.size := by have := hb1.size; simp at this; omega
         rw [World.cell?_alloc_past (w := w1) _ w.heap.size _ hlt]
         rw [hb1.cell (p := ⟨w.heap.size, 0, none⟩) (by show w.heap.size < _; simp)]
         simp [go_sem]
       have HCB := Lib.hid hcb
       have hcn : (w1.alloc (.cells #[.slice a1 S.know.length c1] 22)).cell? ⟨w1.heap.size, 0, none⟩ = some (.slice a1 S.know.length c1) := by simp [go_sem]
       have HCN := Lib.hid hcn
       have hbw : Below w.heap.size w (w1.alloc (.cells #[.slice a1 S.know.length c1] 22)) := bel_new (bel_next HAL.out hb1) _
       have HBW := Lib.hid hbw
       have hO2 := HO.out.later hbw
       have HK := Lib.hid (ovec_base (.pointer (some ⟨w.heap.size, 0, none⟩)) (.pointer (some ⟨w1.heap.size, 0, none⟩)) (fun i => firstQ (zs.map Rd.r) (i : Int) (atL S.know (i : Int))) _ (fun k hk u hu =>
         base1_is (some ⟨b, 0, none⟩) w.heap.size w1.heap.size B v _ zs S.know k u (fun u' hu' => (all_is ((hO2.later hu).later hu')).mono fun e w' h => h)
           ((hu.cell (p := ⟨w.heap.size, 0, none⟩) (by have := cell_lt HCB.out; exact this)).trans HCB.out) ((hu.cell (p := ⟨w1.heap.size, 0, none⟩) (by have := cell_lt HCN.out; exact this)).trans HCN.out)
           (hO2.row.later hu) (Ns.later (Ns.later HN1.out HAL1.out) hu) HOK.out (by have := hO2.len; have := hO2.good.l400; omega) hk))
       clear hn1 hb1 hf1 hal1 hcb hcn hbw hO2)
    | (go_at_call 34; (with_reducible refine HK.out.mono ?_); rintro e w2 ⟨v2, rfl, hn2, hb2, hf2⟩; (have HN2 := Lib.hid hn2); (have HB2 := Lib.hid (bel_next HBW.out hb2)); (have HF2 := Lib.hid (own_past hf2 HBW.out.size)); clear hn2 hb2 hf2))
  go_ret
  refine ⟨_, rfl, ?_, HB2.out, HF2.out⟩
  have e := HO.out.good.base
  unfold baseV at e
  rw [← HO.out.rs] at e
  rw [← e]
  exact HN2.out
theorem base_is {w : World} {B b : Nat} {S : OS} {F : Nat → Prop} (h : LogAt w B b S F) : Calls Try.prog 27 #[.pointer (some ⟨b, 0, none⟩)] w (VNew S.base w) := by
  obtain ⟨⟨kv, v, zs, hO, hf⟩, hF⟩ := h
  exact baseO_is hO
end Go.Proofs.Ythbajlfkgbfkgaa.Og

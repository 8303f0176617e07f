/- The walk of NetPlays. -/
import Derived.Test.YtnjabhjcnkbgpaaNetMeq
import Derived.BigQuiet
import Derived.Deep.CutBlock
import Derived.Deep.DeepCutAuto
set_option maxRecDepth 20000
set_option linter.unusedSimpArgs false
set_option linter.unusedVariables false
namespace Go.Proofs.Ytnjabhjcnkbgpaa
open Go.RowKit

theorem duo_made (w1 : World) (r : Nat) (hr : r = w1.heap.size + 1) : Duo w1 ((w1.alloc (.cells (ncells (.slice none 0 0) 0 fun _ => false) 54)).alloc (.cells #[.slice none 0 0, .int .i64 0, .slice none 0 0] 30)) w1.heap.size r NS.new ⟨[], 0, []⟩ [] := by
  obtain ⟨W, hW⟩ : ∃ W, w1.alloc (.cells (ncells (.slice none 0 0) 0 fun _ => false) 54) = W := ⟨_, rfl⟩
  have h0 := nat_new w1 w1.heap.size (Nat.le_refl _)
  have hb : Below w1.heap.size w1 W := by rw [← hW]; exact bel_al w1 _
  have hs : W.heap.size = w1.heap.size + 1 := by rw [← hW]; simp
  rw [hW] at h0 ⊢
  subst hr
  have hn := heap_alloc_new W (.cells #[.slice none 0 0, .int .i64 0, .slice none 0 0] 30)
  rw [hs] at hn
  refine ⟨.slice none 0 0, .slice none 0 0, .slice none 0 0, h0.later (bel_al W _), ⟨hn, MRow.nil _ _, ARow.nil _ _, by omega, Nat.zero_le _, Nat.zero_le _⟩, fun i hi hr => ?_, hb.trans ((bel_al W _).mono (by omega)), fun x hx => by cases hx⟩
  rcases hi with rfl | hi
  · rcases hr with h | h | h
    · omega
    · cases h
    · cases h
  · cases hi
theorem tmod12 (x : Int) : -11 ≤ x.tmod 12 ∧ x.tmod 12 ≤ 11 := by
  have h1 := Int.tmod_lt_of_pos x (show (0 : Int) < 12 by decide)
  have h2 := Int.lt_tmod_of_pos x (show (0 : Int) < 12 by decide)
  omega
namespace netPlays
set_option maxHeartbeats 16000000 in
theorem walk (a0 : Option Addr) (len cap : Nat) (w : World) (harg : ArgOps w a0 len cap) : Calls Try.prog 3 #[.slice a0 len cap] w fun e w' => e = .returned (.bool true) ∧ Below w.heap.size w w' := by
  obtain ⟨l, hl, hops, hlm, hfit⟩ := harg.has
  have HLN := Lib.hid hl
  have HOPS := Lib.hid hops
  have HFIT := Lib.hid hfit
  clear harg hl hops hfit
  go_enter Try.func3, Try.ntmps3
  go_wp2_with (first
    | (go_at_call 9; (with_reducible refine (awake_is _).mono ?_); rintro e w1 ⟨rfl, hB⟩; (have HB1 := Lib.hid hB); clear hB)
    | (go_at_call 10; (with_reducible refine (new_is w1).mono ?_); rintro e w2 ⟨rfl, rfl⟩; (have H0 := Lib.hid (duo_made w1 _ rfl))))
  go_loopw [6] (fun i wr => ∃ (k : Nat) (S : NS) (R : RN), k ≤ 100 ∧ k ≤ len ∧ i = .int .i64 (k : Int) ∧ Eqv S R k ∧ Duo w1 wr w1.heap.size (w1.heap.size + 1) S R []) (fun i _ => 100 - (intOf i).toNat)
  case atStart => exact ⟨0, _, _, by omega, by omega, rfl, Eqv.new, H0.out⟩
  case round =>
    obtain ⟨k, S, R, hk100, hkl, rfl, hE, hD⟩ := hrel
    obtain ⟨w3, hw3⟩ : ∃ x, x = wr := ⟨_, rfl⟩
    subst hw3
    have HE := Lib.hid hE
    have HD := Lib.hid hD
    clear hE hD
    by_cases hgo : k < len ∧ k < 100
    · obtain ⟨hg1, hg2⟩ := hgo
      have hg1i : (k : Int) < (len : Int) := by omega
      have hg2i : (k : Int) < 100 := by omega
      have hkw : IntKind.i64.wrap ((k : Int) + 1) = (k : Int) + 1 := by rw [IntKind.wrap_i64]; omega
      have hkl2 : k < l.length := by rw [HLN.out]; exact hg1
      have hat := HOPS.out.at_
      rcases hat with hat | ⟨bb, off, rfl, hbb, hcs⟩
      · rw [hat] at hkl2; exact absurd hkl2 (Nat.not_lt_zero _)
      have hB3 : Below w.heap.size w w3 := bel_next HB1.out HD.out.bel
      obtain ⟨o0, o1, o2, o3⟩ := (hcs k hkl2).below hB3 hbb
      have hft := HFIT.out l[k] (List.getElem_mem hkl2)
      obtain ⟨o, ho⟩ : ∃ o, l[k] = o := ⟨_, rfl⟩
      rw [ho] at o0 o1 o2 o3 hft
      obtain ⟨ko, ao, bo, so⟩ := o
      dsimp only at o0 o1 o2 o3
      have hq := tmod12 ko
      obtain ⟨q, hq1⟩ : ∃ q, ko.tmod 12 = q := ⟨_, rfl⟩
      rw [hq1] at hq
      have hqw : IntKind.i64.wrap q = q := by rw [IntKind.wrap_i64]; omega
      have hcase : ∃ c : Int, (0 ≤ c ∧ c ≤ 11) ∧ ((q < 0 ∧ IntKind.i64.wrap (q + 12) = c) ∨ (¬ q < 0 ∧ q = c)) := by
        by_cases hneg : q < 0
        · exact ⟨q + 12, by omega, Or.inl ⟨hneg, by rw [IntKind.wrap_i64]; omega⟩⟩
        · exact ⟨q, by omega, Or.inr ⟨hneg, rfl⟩⟩
      obtain ⟨c, hc, hcase⟩ := hcase
      have HFT := Lib.hid hft
      have HC := Lib.hid hc
      have HO0 := Lib.hid (HD.out.hold (.cells #[.int .i64 ko, .int .i64 ao, .int .i64 bo, .string so] 32))
      clear hcs hkl2 hB3 ho hft hq hc
      go_upto_if 46 with fail
      go_cut [8] from 28 to 242 (fun v8 wx => v8 = .int .i64 c ∧ wx = w3.alloc (.cells #[.int .i64 ko, .int .i64 ao, .int .i64 bo, .string so] 32))
      case first =>
        rcases hcase with ⟨hc1, hc2⟩ | ⟨hc1, hc2⟩
        all_goals (go_wp2_with fail; go_meet; exact ⟨by simp [*], rfl⟩)
      case rest =>
        obtain ⟨rfl, rfl⟩ := hcut
        have HK : Hid (c = 4 ∨ c = 5 ∨ c = 6 ∨ c = 7 ∨ c = 8 ∨ c = 10 ∨ c = 11 ∨ (c = 9 ∧ so = ⟨#[]⟩) ∨ (c = 9 ∧ ¬ so = ⟨#[]⟩) ∨ ((c == 4) = false ∧ (c == 5) = false ∧ (c == 6) = false ∧ (c == 7) = false ∧ (c == 8) = false ∧ (c == 9) = false ∧ (c == 10) = false ∧ (c == 11) = false)) := by
          refine Lib.hid ?_
          have := HC.out
          simp only [beq_eq_false_iff_ne]
          by_cases hso : so = ⟨#[]⟩
          · simp only [hso, true_and, and_true, not_true_eq_false, and_false, false_or]; omega
          · simp only [hso, true_and, and_true, not_false_eq_true, and_false, false_or]; omega
        obtain ⟨t0, t1, t2, t3⟩ := HO0.out.box w3.heap.size ko ao bo so (by simp)
        obtain ⟨w4, hw4⟩ : ∃ W, w3.alloc (.cells #[.int .i64 ko, .int .i64 ao, .int .i64 bo, .string so] 32) = W := ⟨_, rfl⟩
        rw [hw4] at HO0 t0 t1 t2 t3 ⊢
        have H4 := HO0
        clear hw4 HO0 HC hcase
        go_upto_block 2 with fail
        go_cut [9, 22, 23, 24, 25, 26, 27] from 10 to 242 (fun v9 v22 v23 v24 v25 v26 v27 wx => (v22 = .bool true ∧ v23 = .pointer (some ⟨w1.heap.size, 0, none⟩) ∧ v24 = .agg #[.slice none 0 0, .int .i64 0, .slice none 0 0] ∧ v25 = .pointer (some ⟨w1.heap.size + 1, 0, none⟩) ∧ v26 = .pointer (some ⟨w1.heap.size, 0, none⟩) ∧ v27 = .bool false) ∧ v9 = .bool true ∧ ∃ S' R', Eqv S' R' (k + 1) ∧ Duo w1 wx w1.heap.size (w1.heap.size + 1) S' R' [(w3.heap.size, .cells #[.int .i64 ko, .int .i64 ao, .int .i64 bo, .string so] 32)])
        case first =>
          rcases HK.out with rfl | rfl | rfl | rfl | rfl | rfl | rfl | ⟨hc9, hso⟩ | ⟨hc9, hso⟩ | hcd
          · as_aux_lemma =>
            obtain ⟨z, hz⟩ : ∃ z, takeM S ao = z := ⟨_, rfl⟩
            obtain ⟨m, hm⟩ : ∃ m : Ml, mailV z = m.v := by
              cases z with
              | none => exact ⟨ml0, rfl⟩
              | some m => exact ⟨m, rfl⟩
            unfold Ml.v at hm
            have heq := fun W => meq_run m.n m.f m.t m.s m.a W
            go_wp2_with (first
              | (go_at_call 11; (have kp := take_two ao HFT.out.a H4.out); (simp only [hz, hm] at kp); (with_reducible refine kp.mono ?_); rintro e w5 ⟨rfl, hD, hsz⟩; (obtain ⟨t0, t1, t2, t3⟩ := hD.box w3.heap.size ko ao bo so (by simp)); (have H5 := Lib.hid (hD.hold (.cells #[.int .i64 m.n, .int .i64 m.f, .int .i64 m.t, .string m.s, .int .i64 m.a] 34))); (have hx5 := hD.hold (.cells #[.int .i64 m.n, .int .i64 m.f, .int .i64 m.t, .string m.s, .int .i64 m.a] 34)); (obtain ⟨t0, t1, t2, t3⟩ := hx5.box w3.heap.size ko ao bo so (by simp)); clear hD hsz kp hx5)
              | (go_at_call 12; (have kp := rtake_two ao HFT.out.a HE.out H5.out); (simp only [hz, hm] at kp); (with_reducible refine kp.mono ?_); rintro e w6 ⟨rfl, ⟨R', hE', hD⟩, hsz⟩; (obtain ⟨m0, m1, m2, m3, m4⟩ := hD.mail w5.heap.size m (by simp)); (have H6 := Lib.hid ((hD.hold (.cells #[.int .i64 m.n, .int .i64 m.f, .int .i64 m.t, .string m.s, .int .i64 m.a] 34)).less (gs := [(w3.heap.size, .cells #[.int .i64 ko, .int .i64 ao, .int .i64 bo, .string so] 32)]) (by simp))); (have hm6 := (hD.later (bel_al w6 (.cells #[.int .i64 m.n, .int .i64 m.f, .int .i64 m.t, .string m.s, .int .i64 m.a] 34))).mail w5.heap.size m (by simp)); (obtain ⟨v0, v1, v2, v3, v4⟩ := hm6); (have E6 := Lib.hid hE'); clear hD hsz kp hE'))
            go_meet
            exact ⟨⟨rfl, rfl, rfl, rfl, rfl, rfl⟩, rfl, _, _, E6.out.mono (Nat.le_succ k), H6.out⟩
          · as_aux_lemma =>
            obtain ⟨z, hz⟩ : ∃ z, takeM S ao = z := ⟨_, rfl⟩
            obtain ⟨m, hm⟩ : ∃ m : Ml, mailV z = m.v := by
              cases z with
              | none => exact ⟨ml0, rfl⟩
              | some m => exact ⟨m, rfl⟩
            unfold Ml.v at hm
            have heq := fun W => meq_run m.n m.f m.t m.s m.a W
            go_wp2_with (first
              | (go_at_call 11; (have kp := take_two ao HFT.out.a H4.out); (simp only [hz, hm] at kp); (with_reducible refine kp.mono ?_); rintro e w5 ⟨rfl, hD, hsz⟩; (obtain ⟨t0, t1, t2, t3⟩ := hD.box w3.heap.size ko ao bo so (by simp)); (have H5 := Lib.hid (hD.hold (.cells #[.int .i64 m.n, .int .i64 m.f, .int .i64 m.t, .string m.s, .int .i64 m.a] 34))); (have hx5 := hD.hold (.cells #[.int .i64 m.n, .int .i64 m.f, .int .i64 m.t, .string m.s, .int .i64 m.a] 34)); (obtain ⟨t0, t1, t2, t3⟩ := hx5.box w3.heap.size ko ao bo so (by simp)); clear hD hsz kp hx5)
              | (go_at_call 12; (have kp := rtake_two ao HFT.out.a HE.out H5.out); (simp only [hz, hm] at kp); (with_reducible refine kp.mono ?_); rintro e w6 ⟨rfl, ⟨R', hE', hD⟩, hsz⟩; (obtain ⟨m0, m1, m2, m3, m4⟩ := hD.mail w5.heap.size m (by simp)); (have H6 := Lib.hid ((hD.hold (.cells #[.int .i64 m.n, .int .i64 m.f, .int .i64 m.t, .string m.s, .int .i64 m.a] 34)).less (gs := [(w3.heap.size, .cells #[.int .i64 ko, .int .i64 ao, .int .i64 bo, .string so] 32)]) (by simp))); (have hm6 := (hD.later (bel_al w6 (.cells #[.int .i64 m.n, .int .i64 m.f, .int .i64 m.t, .string m.s, .int .i64 m.a] 34))).mail w5.heap.size m (by simp)); (obtain ⟨v0, v1, v2, v3, v4⟩ := hm6); (have E6 := Lib.hid hE'); clear hD hsz kp hE'))
            go_meet
            exact ⟨⟨rfl, rfl, rfl, rfl, rfl, rfl⟩, rfl, _, _, E6.out.mono (Nat.le_succ k), H6.out⟩
          · as_aux_lemma =>
            obtain ⟨d, hd⟩ : ∃ d, (!(S.mail.length == 0)) = d := ⟨_, rfl⟩
            go_upto_region 25 with fail
            have hst := (H4.out.later (Below.refl _ _).drew).box w3.heap.size ko ao bo so (by simp)
            refine wp_region_held_drew (S := (fun W => W.cell? ⟨w3.heap.size, 1, none⟩ = some (.int .i64 ao) ∧ W.cell? ⟨w3.heap.size, 2, none⟩ = some (.int .i64 bo))) (by kernel_rfl) ⟨hst.2.1, hst.2.2.1⟩ (fun hHeld => ?_)
            refine wpAnyH_take (i := 0) (oi := ?d251o) (v := ?d251v) ?d251h (by kernel_rfl) (by kernel_rfl) (by kernel_rfl) ?d251q ?d251y hHeld ?d251r
            case d251h => (simp only [List.getElem?_toArray, List.getElem?_cons_zero]; rfl)
            case d251q => exact fun _ _ _ h => h
            case d251y => (refine Or.inl ⟨by first | kernel_rfl | rfl, ?_⟩; intro w hSw; (try dsimp only at hSw); obtain ⟨y1, y2⟩ := hSw; go_simp <;> (try with_reducible rfl))
            try simp only [Act.put, List.setIfInBounds_toArray, List.set_cons_zero, List.set_cons_succ]
            refine wpAnyH_take (i := 1) (oi := ?d252o) (v := ?d252v) ?d252h (by kernel_rfl) (by kernel_rfl) (by kernel_rfl) ?d252q ?d252y hHeld ?d252r
            case d252h => (simp only [List.getElem?_toArray, List.getElem?_cons_succ, List.getElem?_cons_zero]; rfl)
            case d252q => exact fun _ _ _ h => h
            case d252y => (refine Or.inl ⟨by first | kernel_rfl | rfl, ?_⟩; intro w hSw; (try dsimp only at hSw); obtain ⟨y1, y2⟩ := hSw; go_simp <;> (try with_reducible rfl))
            try simp only [Act.put, List.setIfInBounds_toArray, List.set_cons_zero, List.set_cons_succ]
            refine wpAnyH_take (i := 2) (oi := ?d253o) (v := ?d253v) ?d253h (by kernel_rfl) (by kernel_rfl) (by kernel_rfl) ?d253q ?d253y hHeld ?d253r
            case d253h => (simp only [List.getElem?_toArray, List.getElem?_cons_succ, List.getElem?_cons_zero]; rfl)
            case d253q => exact fun _ _ _ h => h
            case d253y => (refine Or.inl ⟨by first | kernel_rfl | rfl, ?_⟩; intro w hSw; (try dsimp only at hSw); obtain ⟨y1, y2⟩ := hSw; go_simp <;> (try with_reducible rfl))
            try simp only [Act.put, List.setIfInBounds_toArray, List.set_cons_zero, List.set_cons_succ]
            refine wpAnyH_take (i := 4) (oi := ?d254o) (v := ?d254v) ?d254h (by kernel_rfl) (by kernel_rfl) (by kernel_rfl) ?d254q ?d254y hHeld ?d254r
            case d254h => (simp only [List.getElem?_toArray, List.getElem?_cons_succ, List.getElem?_cons_zero]; rfl)
            case d254q => exact fun _ _ _ h => h
            case d254y => (refine Or.inl ⟨by first | kernel_rfl | rfl, ?_⟩; intro w hSw; (try dsimp only at hSw); obtain ⟨y1, y2⟩ := hSw; go_simp <;> (try with_reducible rfl))
            try simp only [Act.put, List.setIfInBounds_toArray, List.set_cons_zero, List.set_cons_succ]
            refine wpAnyH_take (i := 5) (oi := ?d255o) (v := ?d255v) ?d255h (by kernel_rfl) (by kernel_rfl) (by kernel_rfl) ?d255q ?d255y hHeld ?d255r
            case d255h => (simp only [List.getElem?_toArray, List.getElem?_cons_succ, List.getElem?_cons_zero]; rfl)
            case d255q => exact fun _ _ _ h => h
            case d255y => (refine Or.inl ⟨by first | kernel_rfl | rfl, ?_⟩; intro w hSw; (try dsimp only at hSw); obtain ⟨y1, y2⟩ := hSw; go_simp <;> (try with_reducible rfl))
            try simp only [Act.put, List.setIfInBounds_toArray, List.set_cons_zero, List.set_cons_succ]
            refine wpAnyH_take (i := 6) (oi := ?d256o) (v := ?d256v) ?d256h (by kernel_rfl) (by kernel_rfl) (by kernel_rfl) ?d256q ?d256y hHeld ?d256r
            case d256h => (simp only [List.getElem?_toArray, List.getElem?_cons_succ, List.getElem?_cons_zero]; rfl)
            case d256q => exact fun _ _ _ h => h
            case d256y => (refine Or.inl ⟨by first | kernel_rfl | rfl, ?_⟩; intro w hSw; (try dsimp only at hSw); obtain ⟨y1, y2⟩ := hSw; go_simp <;> (try with_reducible rfl))
            try simp only [Act.put, List.setIfInBounds_toArray, List.set_cons_zero, List.set_cons_succ]
            refine wpAnyH_ready (rs := [3]) (by kernel_rfl) (by simp) ?_
            refine (AllReadyH.cons rfl (fun K hK => ?_) AllReadyH.nil)
            go_simp
            (go_at_call 13; (have kp := duo_prog (H4.out.later (Below.refl _ _).drew) fun _ hN => drop_is ao HFT.out.a hN); (simp only [hd] at kp); (with_reducible refine kp.mono ?_); rintro e w5 ⟨rfl, hD, hsz⟩; (obtain ⟨t0, t1, t2, t3⟩ := hD.box w3.heap.size ko ao bo so (by simp)); (have H5 := Lib.hid hD); clear hD hsz kp)
            refine hK.out _ _ (⟨t1, t2⟩) (fun hHeld => ?_)
            clear hK K
            try simp only [Act.put, List.setIfInBounds_toArray, List.set_cons_zero, List.set_cons_succ]
            refine wpAnyH_ready (rs := [7]) (by kernel_rfl) (by simp) ?_
            refine (AllReadyH.cons rfl (fun K hK => ?_) AllReadyH.nil)
            go_simp
            (go_at_call 14; (have kp := rdrop_two ao HFT.out.a HE.out H5.out); (simp only [hd] at kp); (with_reducible refine kp.mono ?_); rintro e w6 ⟨rfl, ⟨R', hE', hD⟩, hsz⟩; (obtain ⟨t0, t1, t2, t3⟩ := hD.box w3.heap.size ko ao bo so (by simp)); (have H6 := Lib.hid hD); (have E6 := Lib.hid hE'); clear hD hsz kp hE')
            refine hK.out _ _ (⟨t1, t2⟩) (fun hHeld => ?_)
            clear hK K
            try simp only [Act.put, List.setIfInBounds_toArray, List.set_cons_zero, List.set_cons_succ]
            refine wpAnyH_take (i := 8) (oi := ?d257o) (v := ?d257v) ?d257h (by kernel_rfl) (by kernel_rfl) (by kernel_rfl) ?d257q ?d257y hHeld ?d257r
            case d257h => (simp only [List.getElem?_toArray, List.getElem?_cons_succ, List.getElem?_cons_zero]; rfl)
            case d257q => exact fun _ _ _ h => h
            case d257y => (refine Or.inl ⟨by first | kernel_rfl | rfl, ?_⟩; intro w hSw; (try dsimp only at hSw); obtain ⟨y1, y2⟩ := hSw; go_simp <;> (try with_reducible rfl))
            try simp only [Act.put, List.setIfInBounds_toArray, List.set_cons_zero, List.set_cons_succ]
            refine wpAnyH_take (i := 9) (oi := ?d258o) (v := ?d258v) ?d258h (by kernel_rfl) (by kernel_rfl) (by kernel_rfl) ?d258q ?d258y hHeld ?d258r
            case d258h => (simp only [List.getElem?_toArray, List.getElem?_cons_succ, List.getElem?_cons_zero]; rfl)
            case d258q => exact fun _ _ _ h => h
            case d258y => (refine Or.inl ⟨by first | kernel_rfl | rfl, ?_⟩; intro w hSw; (try dsimp only at hSw); obtain ⟨y1, y2⟩ := hSw; go_simp <;> (try with_reducible rfl))
            try simp only [Act.put, List.setIfInBounds_toArray, List.set_cons_zero, List.set_cons_succ]
            refine wpAnyH_done (by kernel_rfl) ?_ _
            go_wp2
            go_meet
            exact ⟨⟨rfl, rfl, rfl, rfl, rfl, rfl⟩, by simp, _, _, E6.out.mono (Nat.le_succ k), H6.out⟩
          · as_aux_lemma =>
            obtain ⟨d, hd⟩ : ∃ d, doubleB S = d := ⟨_, rfl⟩
            go_upto_region 27 with fail
            have hst := (H4.out.later (Below.refl _ _).drew).box w3.heap.size ko ao bo so (by simp)
            refine wp_region_held_drew (S := (fun W => W.cell? ⟨w3.heap.size, 1, none⟩ = some (.int .i64 ao) ∧ W.cell? ⟨w3.heap.size, 2, none⟩ = some (.int .i64 bo))) (by kernel_rfl) ⟨hst.2.1, hst.2.2.1⟩ (fun hHeld => ?_)
            refine wpAnyH_take (i := 0) (oi := ?d271o) (v := ?d271v) ?d271h (by kernel_rfl) (by kernel_rfl) (by kernel_rfl) ?d271q ?d271y hHeld ?d271r
            case d271h => (simp only [List.getElem?_toArray, List.getElem?_cons_zero]; rfl)
            case d271q => exact fun _ _ _ h => h
            case d271y => (refine Or.inl ⟨by first | kernel_rfl | rfl, ?_⟩; intro w hSw; (try dsimp only at hSw); obtain ⟨y1, y2⟩ := hSw; go_simp <;> (try with_reducible rfl))
            try simp only [Act.put, List.setIfInBounds_toArray, List.set_cons_zero, List.set_cons_succ]
            refine wpAnyH_take (i := 1) (oi := ?d272o) (v := ?d272v) ?d272h (by kernel_rfl) (by kernel_rfl) (by kernel_rfl) ?d272q ?d272y hHeld ?d272r
            case d272h => (simp only [List.getElem?_toArray, List.getElem?_cons_succ, List.getElem?_cons_zero]; rfl)
            case d272q => exact fun _ _ _ h => h
            case d272y => (refine Or.inl ⟨by first | kernel_rfl | rfl, ?_⟩; intro w hSw; (try dsimp only at hSw); obtain ⟨y1, y2⟩ := hSw; go_simp <;> (try with_reducible rfl))
            try simp only [Act.put, List.setIfInBounds_toArray, List.set_cons_zero, List.set_cons_succ]
            refine wpAnyH_take (i := 2) (oi := ?d273o) (v := ?d273v) ?d273h (by kernel_rfl) (by kernel_rfl) (by kernel_rfl) ?d273q ?d273y hHeld ?d273r
            case d273h => (simp only [List.getElem?_toArray, List.getElem?_cons_succ, List.getElem?_cons_zero]; rfl)
            case d273q => exact fun _ _ _ h => h
            case d273y => (refine Or.inl ⟨by first | kernel_rfl | rfl, ?_⟩; intro w hSw; (try dsimp only at hSw); obtain ⟨y1, y2⟩ := hSw; go_simp <;> (try with_reducible rfl))
            try simp only [Act.put, List.setIfInBounds_toArray, List.set_cons_zero, List.set_cons_succ]
            refine wpAnyH_take (i := 4) (oi := ?d274o) (v := ?d274v) ?d274h (by kernel_rfl) (by kernel_rfl) (by kernel_rfl) ?d274q ?d274y hHeld ?d274r
            case d274h => (simp only [List.getElem?_toArray, List.getElem?_cons_succ, List.getElem?_cons_zero]; rfl)
            case d274q => exact fun _ _ _ h => h
            case d274y => (refine Or.inl ⟨by first | kernel_rfl | rfl, ?_⟩; intro w hSw; (try dsimp only at hSw); obtain ⟨y1, y2⟩ := hSw; go_simp <;> (try with_reducible rfl))
            try simp only [Act.put, List.setIfInBounds_toArray, List.set_cons_zero, List.set_cons_succ]
            refine wpAnyH_take (i := 5) (oi := ?d275o) (v := ?d275v) ?d275h (by kernel_rfl) (by kernel_rfl) (by kernel_rfl) ?d275q ?d275y hHeld ?d275r
            case d275h => (simp only [List.getElem?_toArray, List.getElem?_cons_succ, List.getElem?_cons_zero]; rfl)
            case d275q => exact fun _ _ _ h => h
            case d275y => (refine Or.inl ⟨by first | kernel_rfl | rfl, ?_⟩; intro w hSw; (try dsimp only at hSw); obtain ⟨y1, y2⟩ := hSw; go_simp <;> (try with_reducible rfl))
            try simp only [Act.put, List.setIfInBounds_toArray, List.set_cons_zero, List.set_cons_succ]
            refine wpAnyH_take (i := 6) (oi := ?d276o) (v := ?d276v) ?d276h (by kernel_rfl) (by kernel_rfl) (by kernel_rfl) ?d276q ?d276y hHeld ?d276r
            case d276h => (simp only [List.getElem?_toArray, List.getElem?_cons_succ, List.getElem?_cons_zero]; rfl)
            case d276q => exact fun _ _ _ h => h
            case d276y => (refine Or.inl ⟨by first | kernel_rfl | rfl, ?_⟩; intro w hSw; (try dsimp only at hSw); obtain ⟨y1, y2⟩ := hSw; go_simp <;> (try with_reducible rfl))
            try simp only [Act.put, List.setIfInBounds_toArray, List.set_cons_zero, List.set_cons_succ]
            refine wpAnyH_ready (rs := [3]) (by kernel_rfl) (by simp) ?_
            refine (AllReadyH.cons rfl (fun K hK => ?_) AllReadyH.nil)
            go_simp
            (go_at_call 15; (have kp := duo_prog (H4.out.later (Below.refl _ _).drew) fun _ hN => double_is ao HFT.out.a hN); (simp only [hd] at kp); (with_reducible refine kp.mono ?_); rintro e w5 ⟨rfl, hD, hsz⟩; (obtain ⟨t0, t1, t2, t3⟩ := hD.box w3.heap.size ko ao bo so (by simp)); (have H5 := Lib.hid hD); clear hD hsz kp)
            refine hK.out _ _ (⟨t1, t2⟩) (fun hHeld => ?_)
            clear hK K
            try simp only [Act.put, List.setIfInBounds_toArray, List.set_cons_zero, List.set_cons_succ]
            refine wpAnyH_ready (rs := [7]) (by kernel_rfl) (by simp) ?_
            refine (AllReadyH.cons rfl (fun K hK => ?_) AllReadyH.nil)
            go_simp
            (go_at_call 16; (have kp := rdouble_two ao HFT.out.a HE.out (by omega) H5.out); (simp only [hd] at kp); (with_reducible refine kp.mono ?_); rintro e w6 ⟨rfl, ⟨R', hE', hD⟩, hsz⟩; (obtain ⟨t0, t1, t2, t3⟩ := hD.box w3.heap.size ko ao bo so (by simp)); (have H6 := Lib.hid hD); (have E6 := Lib.hid hE'); clear hD hsz kp hE')
            refine hK.out _ _ (⟨t1, t2⟩) (fun hHeld => ?_)
            clear hK K
            try simp only [Act.put, List.setIfInBounds_toArray, List.set_cons_zero, List.set_cons_succ]
            refine wpAnyH_take (i := 8) (oi := ?d277o) (v := ?d277v) ?d277h (by kernel_rfl) (by kernel_rfl) (by kernel_rfl) ?d277q ?d277y hHeld ?d277r
            case d277h => (simp only [List.getElem?_toArray, List.getElem?_cons_succ, List.getElem?_cons_zero]; rfl)
            case d277q => exact fun _ _ _ h => h
            case d277y => (refine Or.inl ⟨by first | kernel_rfl | rfl, ?_⟩; intro w hSw; (try dsimp only at hSw); obtain ⟨y1, y2⟩ := hSw; go_simp <;> (try with_reducible rfl))
            try simp only [Act.put, List.setIfInBounds_toArray, List.set_cons_zero, List.set_cons_succ]
            refine wpAnyH_take (i := 9) (oi := ?d278o) (v := ?d278v) ?d278h (by kernel_rfl) (by kernel_rfl) (by kernel_rfl) ?d278q ?d278y hHeld ?d278r
            case d278h => (simp only [List.getElem?_toArray, List.getElem?_cons_succ, List.getElem?_cons_zero]; rfl)
            case d278q => exact fun _ _ _ h => h
            case d278y => (refine Or.inl ⟨by first | kernel_rfl | rfl, ?_⟩; intro w hSw; (try dsimp only at hSw); obtain ⟨y1, y2⟩ := hSw; go_simp <;> (try with_reducible rfl))
            try simp only [Act.put, List.setIfInBounds_toArray, List.set_cons_zero, List.set_cons_succ]
            refine wpAnyH_done (by kernel_rfl) ?_ _
            go_wp2
            go_meet
            exact ⟨⟨rfl, rfl, rfl, rfl, rfl, rfl⟩, by simp, _, _, E6.out, H6.out⟩
          · as_aux_lemma =>
            obtain ⟨d, hd⟩ : ∃ d, (!sameAs S ao bo true) = d := ⟨_, rfl⟩
            go_upto_region 29 with fail
            have hst := (H4.out.later (Below.refl _ _).drew).box w3.heap.size ko ao bo so (by simp)
            refine wp_region_held_drew (S := (fun W => W.cell? ⟨w3.heap.size, 1, none⟩ = some (.int .i64 ao) ∧ W.cell? ⟨w3.heap.size, 2, none⟩ = some (.int .i64 bo))) (by kernel_rfl) ⟨hst.2.1, hst.2.2.1⟩ (fun hHeld => ?_)
            refine wpAnyH_take (i := 0) (oi := ?d291o) (v := ?d291v) ?d291h (by kernel_rfl) (by kernel_rfl) (by kernel_rfl) ?d291q ?d291y hHeld ?d291r
            case d291h => (simp only [List.getElem?_toArray, List.getElem?_cons_zero]; rfl)
            case d291q => exact fun _ _ _ h => h
            case d291y => (refine Or.inl ⟨by first | kernel_rfl | rfl, ?_⟩; intro w hSw; (try dsimp only at hSw); obtain ⟨y1, y2⟩ := hSw; go_simp <;> (try with_reducible rfl))
            try simp only [Act.put, List.setIfInBounds_toArray, List.set_cons_zero, List.set_cons_succ]
            refine wpAnyH_take (i := 1) (oi := ?d292o) (v := ?d292v) ?d292h (by kernel_rfl) (by kernel_rfl) (by kernel_rfl) ?d292q ?d292y hHeld ?d292r
            case d292h => (simp only [List.getElem?_toArray, List.getElem?_cons_succ, List.getElem?_cons_zero]; rfl)
            case d292q => exact fun _ _ _ h => h
            case d292y => (refine Or.inl ⟨by first | kernel_rfl | rfl, ?_⟩; intro w hSw; (try dsimp only at hSw); obtain ⟨y1, y2⟩ := hSw; go_simp <;> (try with_reducible rfl))
            try simp only [Act.put, List.setIfInBounds_toArray, List.set_cons_zero, List.set_cons_succ]
            refine wpAnyH_take (i := 2) (oi := ?d293o) (v := ?d293v) ?d293h (by kernel_rfl) (by kernel_rfl) (by kernel_rfl) ?d293q ?d293y hHeld ?d293r
            case d293h => (simp only [List.getElem?_toArray, List.getElem?_cons_succ, List.getElem?_cons_zero]; rfl)
            case d293q => exact fun _ _ _ h => h
            case d293y => (refine Or.inl ⟨by first | kernel_rfl | rfl, ?_⟩; intro w hSw; (try dsimp only at hSw); obtain ⟨y1, y2⟩ := hSw; go_simp <;> (try with_reducible rfl))
            try simp only [Act.put, List.setIfInBounds_toArray, List.set_cons_zero, List.set_cons_succ]
            refine wpAnyH_take (i := 3) (oi := ?d294o) (v := ?d294v) ?d294h (by kernel_rfl) (by kernel_rfl) (by kernel_rfl) ?d294q ?d294y hHeld ?d294r
            case d294h => (simp only [List.getElem?_toArray, List.getElem?_cons_succ, List.getElem?_cons_zero]; rfl)
            case d294q => exact fun _ _ _ h => h
            case d294y => (refine Or.inl ⟨by first | kernel_rfl | rfl, ?_⟩; intro w hSw; (try dsimp only at hSw); obtain ⟨y1, y2⟩ := hSw; go_simp <;> (try with_reducible rfl))
            try simp only [Act.put, List.setIfInBounds_toArray, List.set_cons_zero, List.set_cons_succ]
            refine wpAnyH_take (i := 4) (oi := ?d295o) (v := ?d295v) ?d295h (by kernel_rfl) (by kernel_rfl) (by kernel_rfl) ?d295q ?d295y hHeld ?d295r
            case d295h => (simp only [List.getElem?_toArray, List.getElem?_cons_succ, List.getElem?_cons_zero]; rfl)
            case d295q => exact fun _ _ _ h => h
            case d295y => (refine Or.inl ⟨by first | kernel_rfl | rfl, ?_⟩; intro w hSw; (try dsimp only at hSw); obtain ⟨y1, y2⟩ := hSw; go_simp <;> (try with_reducible rfl))
            try simp only [Act.put, List.setIfInBounds_toArray, List.set_cons_zero, List.set_cons_succ]
            refine wpAnyH_take (i := 6) (oi := ?d296o) (v := ?d296v) ?d296h (by kernel_rfl) (by kernel_rfl) (by kernel_rfl) ?d296q ?d296y hHeld ?d296r
            case d296h => (simp only [List.getElem?_toArray, List.getElem?_cons_succ, List.getElem?_cons_zero]; rfl)
            case d296q => exact fun _ _ _ h => h
            case d296y => (refine Or.inl ⟨by first | kernel_rfl | rfl, ?_⟩; intro w hSw; (try dsimp only at hSw); obtain ⟨y1, y2⟩ := hSw; go_simp <;> (try with_reducible rfl))
            try simp only [Act.put, List.setIfInBounds_toArray, List.set_cons_zero, List.set_cons_succ]
            refine wpAnyH_take (i := 7) (oi := ?d297o) (v := ?d297v) ?d297h (by kernel_rfl) (by kernel_rfl) (by kernel_rfl) ?d297q ?d297y hHeld ?d297r
            case d297h => (simp only [List.getElem?_toArray, List.getElem?_cons_succ, List.getElem?_cons_zero]; rfl)
            case d297q => exact fun _ _ _ h => h
            case d297y => (refine Or.inl ⟨by first | kernel_rfl | rfl, ?_⟩; intro w hSw; (try dsimp only at hSw); obtain ⟨y1, y2⟩ := hSw; go_simp <;> (try with_reducible rfl))
            try simp only [Act.put, List.setIfInBounds_toArray, List.set_cons_zero, List.set_cons_succ]
            refine wpAnyH_take (i := 8) (oi := ?d298o) (v := ?d298v) ?d298h (by kernel_rfl) (by kernel_rfl) (by kernel_rfl) ?d298q ?d298y hHeld ?d298r
            case d298h => (simp only [List.getElem?_toArray, List.getElem?_cons_succ, List.getElem?_cons_zero]; rfl)
            case d298q => exact fun _ _ _ h => h
            case d298y => (refine Or.inl ⟨by first | kernel_rfl | rfl, ?_⟩; intro w hSw; (try dsimp only at hSw); obtain ⟨y1, y2⟩ := hSw; go_simp <;> (try with_reducible rfl))
            try simp only [Act.put, List.setIfInBounds_toArray, List.set_cons_zero, List.set_cons_succ]
            refine wpAnyH_take (i := 9) (oi := ?d299o) (v := ?d299v) ?d299h (by kernel_rfl) (by kernel_rfl) (by kernel_rfl) ?d299q ?d299y hHeld ?d299r
            case d299h => (simp only [List.getElem?_toArray, List.getElem?_cons_succ, List.getElem?_cons_zero]; rfl)
            case d299q => exact fun _ _ _ h => h
            case d299y => (refine Or.inl ⟨by first | kernel_rfl | rfl, ?_⟩; intro w hSw; (try dsimp only at hSw); obtain ⟨y1, y2⟩ := hSw; go_simp <;> (try with_reducible rfl))
            try simp only [Act.put, List.setIfInBounds_toArray, List.set_cons_zero, List.set_cons_succ]
            refine wpAnyH_take (i := 10) (oi := ?d2910o) (v := ?d2910v) ?d2910h (by kernel_rfl) (by kernel_rfl) (by kernel_rfl) ?d2910q ?d2910y hHeld ?d2910r
            case d2910h => (simp only [List.getElem?_toArray, List.getElem?_cons_succ, List.getElem?_cons_zero]; rfl)
            case d2910q => exact fun _ _ _ h => h
            case d2910y => (refine Or.inl ⟨by first | kernel_rfl | rfl, ?_⟩; intro w hSw; (try dsimp only at hSw); obtain ⟨y1, y2⟩ := hSw; go_simp <;> (try with_reducible rfl))
            try simp only [Act.put, List.setIfInBounds_toArray, List.set_cons_zero, List.set_cons_succ]
            refine wpAnyH_ready (rs := [5]) (by kernel_rfl) (by simp) ?_
            refine (AllReadyH.cons rfl (fun K hK => ?_) AllReadyH.nil)
            go_simp
            (go_at_call 17; (have kp := duo_prog (H4.out.later (Below.refl _ _).drew) fun _ hN => part_is ao bo hN); (simp only [hd] at kp); (with_reducible refine kp.mono ?_); rintro e w5 ⟨rfl, hD, hsz⟩; (obtain ⟨t0, t1, t2, t3⟩ := hD.box w3.heap.size ko ao bo so (by simp)); (have H5 := Lib.hid hD); clear hD hsz kp)
            refine hK.out _ _ (⟨t1, t2⟩) (fun hHeld => ?_)
            clear hK K
            try simp only [Act.put, List.setIfInBounds_toArray, List.set_cons_zero, List.set_cons_succ]
            refine wpAnyH_ready (rs := [11]) (by kernel_rfl) (by simp) ?_
            refine (AllReadyH.cons rfl (fun K hK => ?_) AllReadyH.nil)
            go_simp
            (go_at_call 18; (have kp := rpart_two ao bo HE.out (by omega) H5.out); (simp only [hd] at kp); (with_reducible refine kp.mono ?_); rintro e w6 ⟨rfl, ⟨R', hE', hD⟩, hsz⟩; (obtain ⟨t0, t1, t2, t3⟩ := hD.box w3.heap.size ko ao bo so (by simp)); (have H6 := Lib.hid hD); (have E6 := Lib.hid hE'); clear hD hsz kp hE')
            refine hK.out _ _ (⟨t1, t2⟩) (fun hHeld => ?_)
            clear hK K
            try simp only [Act.put, List.setIfInBounds_toArray, List.set_cons_zero, List.set_cons_succ]
            refine wpAnyH_take (i := 12) (oi := ?d2911o) (v := ?d2911v) ?d2911h (by kernel_rfl) (by kernel_rfl) (by kernel_rfl) ?d2911q ?d2911y hHeld ?d2911r
            case d2911h => (simp only [List.getElem?_toArray, List.getElem?_cons_succ, List.getElem?_cons_zero]; rfl)
            case d2911q => exact fun _ _ _ h => h
            case d2911y => (refine Or.inl ⟨by first | kernel_rfl | rfl, ?_⟩; intro w hSw; (try dsimp only at hSw); obtain ⟨y1, y2⟩ := hSw; go_simp <;> (try with_reducible rfl))
            try simp only [Act.put, List.setIfInBounds_toArray, List.set_cons_zero, List.set_cons_succ]
            refine wpAnyH_take (i := 13) (oi := ?d2912o) (v := ?d2912v) ?d2912h (by kernel_rfl) (by kernel_rfl) (by kernel_rfl) ?d2912q ?d2912y hHeld ?d2912r
            case d2912h => (simp only [List.getElem?_toArray, List.getElem?_cons_succ, List.getElem?_cons_zero]; rfl)
            case d2912q => exact fun _ _ _ h => h
            case d2912y => (refine Or.inl ⟨by first | kernel_rfl | rfl, ?_⟩; intro w hSw; (try dsimp only at hSw); obtain ⟨y1, y2⟩ := hSw; go_simp <;> (try with_reducible rfl))
            try simp only [Act.put, List.setIfInBounds_toArray, List.set_cons_zero, List.set_cons_succ]
            refine wpAnyH_done (by kernel_rfl) ?_ _
            go_wp2
            go_meet
            exact ⟨⟨rfl, rfl, rfl, rfl, rfl, rfl⟩, by simp, _, _, E6.out, H6.out⟩
          · as_aux_lemma =>
            go_wp2_with (first
              | (go_at_call 22; (have kp := duo_prog H4.out fun _ hN => tick_is hN); (with_reducible refine kp.mono ?_); rintro e w5 ⟨rfl, hD, hsz⟩; (obtain ⟨t0, t1, t2, t3⟩ := hD.box w3.heap.size ko ao bo so (by simp)); (have H5 := Lib.hid hD); clear hD hsz kp)
              | (go_at_call 23; (have kp := rtick_two HE.out (by omega) H5.out); (with_reducible refine kp.mono ?_); rintro e w6 ⟨rfl, ⟨R', hE', hD⟩, hsz⟩; (obtain ⟨t0, t1, t2, t3⟩ := hD.box w3.heap.size ko ao bo so (by simp)); (have H6 := Lib.hid hD); (have E6 := Lib.hid hE'); clear hD hsz kp hE'))
            go_meet
            exact ⟨⟨rfl, rfl, rfl, rfl, rfl, rfl⟩, rfl, _, _, E6.out, H6.out⟩
          · as_aux_lemma =>
            obtain ⟨d, hd⟩ : ∃ d, loseN S ao = d := ⟨_, rfl⟩
            go_upto_region 39 with fail
            have hst := (H4.out.later (Below.refl _ _).drew).box w3.heap.size ko ao bo so (by simp)
            refine wp_region_held_drew (S := (fun W => W.cell? ⟨w3.heap.size, 1, none⟩ = some (.int .i64 ao) ∧ W.cell? ⟨w3.heap.size, 2, none⟩ = some (.int .i64 bo))) (by kernel_rfl) ⟨hst.2.1, hst.2.2.1⟩ (fun hHeld => ?_)
            refine wpAnyH_take (i := 0) (oi := ?d391o) (v := ?d391v) ?d391h (by kernel_rfl) (by kernel_rfl) (by kernel_rfl) ?d391q ?d391y hHeld ?d391r
            case d391h => (simp only [List.getElem?_toArray, List.getElem?_cons_zero]; rfl)
            case d391q => exact fun _ _ _ h => h
            case d391y => (refine Or.inl ⟨by first | kernel_rfl | rfl, ?_⟩; intro w hSw; (try dsimp only at hSw); obtain ⟨y1, y2⟩ := hSw; go_simp <;> (try with_reducible rfl))
            try simp only [Act.put, List.setIfInBounds_toArray, List.set_cons_zero, List.set_cons_succ]
            refine wpAnyH_take (i := 1) (oi := ?d392o) (v := ?d392v) ?d392h (by kernel_rfl) (by kernel_rfl) (by kernel_rfl) ?d392q ?d392y hHeld ?d392r
            case d392h => (simp only [List.getElem?_toArray, List.getElem?_cons_succ, List.getElem?_cons_zero]; rfl)
            case d392q => exact fun _ _ _ h => h
            case d392y => (refine Or.inl ⟨by first | kernel_rfl | rfl, ?_⟩; intro w hSw; (try dsimp only at hSw); obtain ⟨y1, y2⟩ := hSw; go_simp <;> (try with_reducible rfl))
            try simp only [Act.put, List.setIfInBounds_toArray, List.set_cons_zero, List.set_cons_succ]
            refine wpAnyH_take (i := 2) (oi := ?d393o) (v := ?d393v) ?d393h (by kernel_rfl) (by kernel_rfl) (by kernel_rfl) ?d393q ?d393y hHeld ?d393r
            case d393h => (simp only [List.getElem?_toArray, List.getElem?_cons_succ, List.getElem?_cons_zero]; rfl)
            case d393q => exact fun _ _ _ h => h
            case d393y => (refine Or.inl ⟨by first | kernel_rfl | rfl, ?_⟩; intro w hSw; (try dsimp only at hSw); obtain ⟨y1, y2⟩ := hSw; go_simp <;> (try with_reducible rfl))
            try simp only [Act.put, List.setIfInBounds_toArray, List.set_cons_zero, List.set_cons_succ]
            refine wpAnyH_take (i := 4) (oi := ?d394o) (v := ?d394v) ?d394h (by kernel_rfl) (by kernel_rfl) (by kernel_rfl) ?d394q ?d394y hHeld ?d394r
            case d394h => (simp only [List.getElem?_toArray, List.getElem?_cons_succ, List.getElem?_cons_zero]; rfl)
            case d394q => exact fun _ _ _ h => h
            case d394y => (refine Or.inl ⟨by first | kernel_rfl | rfl, ?_⟩; intro w hSw; (try dsimp only at hSw); obtain ⟨y1, y2⟩ := hSw; go_simp <;> (try with_reducible rfl))
            try simp only [Act.put, List.setIfInBounds_toArray, List.set_cons_zero, List.set_cons_succ]
            refine wpAnyH_take (i := 5) (oi := ?d395o) (v := ?d395v) ?d395h (by kernel_rfl) (by kernel_rfl) (by kernel_rfl) ?d395q ?d395y hHeld ?d395r
            case d395h => (simp only [List.getElem?_toArray, List.getElem?_cons_succ, List.getElem?_cons_zero]; rfl)
            case d395q => exact fun _ _ _ h => h
            case d395y => (refine Or.inl ⟨by first | kernel_rfl | rfl, ?_⟩; intro w hSw; (try dsimp only at hSw); obtain ⟨y1, y2⟩ := hSw; go_simp <;> (try with_reducible rfl))
            try simp only [Act.put, List.setIfInBounds_toArray, List.set_cons_zero, List.set_cons_succ]
            refine wpAnyH_take (i := 6) (oi := ?d396o) (v := ?d396v) ?d396h (by kernel_rfl) (by kernel_rfl) (by kernel_rfl) ?d396q ?d396y hHeld ?d396r
            case d396h => (simp only [List.getElem?_toArray, List.getElem?_cons_succ, List.getElem?_cons_zero]; rfl)
            case d396q => exact fun _ _ _ h => h
            case d396y => (refine Or.inl ⟨by first | kernel_rfl | rfl, ?_⟩; intro w hSw; (try dsimp only at hSw); obtain ⟨y1, y2⟩ := hSw; go_simp <;> (try with_reducible rfl))
            try simp only [Act.put, List.setIfInBounds_toArray, List.set_cons_zero, List.set_cons_succ]
            refine wpAnyH_ready (rs := [3]) (by kernel_rfl) (by simp) ?_
            refine (AllReadyH.cons rfl (fun K hK => ?_) AllReadyH.nil)
            go_simp
            (go_at_call 24; (have kp := duo_prog (H4.out.later (Below.refl _ _).drew) fun _ hN => lose_is ao hN); (simp only [hd] at kp); (with_reducible refine kp.mono ?_); rintro e w5 ⟨rfl, hD, hsz⟩; (obtain ⟨t0, t1, t2, t3⟩ := hD.box w3.heap.size ko ao bo so (by simp)); (have H5 := Lib.hid hD); clear hD hsz kp)
            refine hK.out _ _ (⟨t1, t2⟩) (fun hHeld => ?_)
            clear hK K
            try simp only [Act.put, List.setIfInBounds_toArray, List.set_cons_zero, List.set_cons_succ]
            refine wpAnyH_ready (rs := [7]) (by kernel_rfl) (by simp) ?_
            refine (AllReadyH.cons rfl (fun K hK => ?_) AllReadyH.nil)
            go_simp
            (go_at_call 25; (have kp := rlose_two ao HE.out H5.out); (simp only [hd] at kp); (with_reducible refine kp.mono ?_); rintro e w6 ⟨rfl, ⟨R', hE', hD⟩, hsz⟩; (obtain ⟨t0, t1, t2, t3⟩ := hD.box w3.heap.size ko ao bo so (by simp)); (have H6 := Lib.hid hD); (have E6 := Lib.hid hE'); clear hD hsz kp hE')
            refine hK.out _ _ (⟨t1, t2⟩) (fun hHeld => ?_)
            clear hK K
            try simp only [Act.put, List.setIfInBounds_toArray, List.set_cons_zero, List.set_cons_succ]
            refine wpAnyH_take (i := 8) (oi := ?d397o) (v := ?d397v) ?d397h (by kernel_rfl) (by kernel_rfl) (by kernel_rfl) ?d397q ?d397y hHeld ?d397r
            case d397h => (simp only [List.getElem?_toArray, List.getElem?_cons_succ, List.getElem?_cons_zero]; rfl)
            case d397q => exact fun _ _ _ h => h
            case d397y => (refine Or.inl ⟨by first | kernel_rfl | rfl, ?_⟩; intro w hSw; (try dsimp only at hSw); obtain ⟨y1, y2⟩ := hSw; go_simp <;> (try with_reducible rfl))
            try simp only [Act.put, List.setIfInBounds_toArray, List.set_cons_zero, List.set_cons_succ]
            refine wpAnyH_take (i := 9) (oi := ?d398o) (v := ?d398v) ?d398h (by kernel_rfl) (by kernel_rfl) (by kernel_rfl) ?d398q ?d398y hHeld ?d398r
            case d398h => (simp only [List.getElem?_toArray, List.getElem?_cons_succ, List.getElem?_cons_zero]; rfl)
            case d398q => exact fun _ _ _ h => h
            case d398y => (refine Or.inl ⟨by first | kernel_rfl | rfl, ?_⟩; intro w hSw; (try dsimp only at hSw); obtain ⟨y1, y2⟩ := hSw; go_simp <;> (try with_reducible rfl))
            try simp only [Act.put, List.setIfInBounds_toArray, List.set_cons_zero, List.set_cons_succ]
            refine wpAnyH_done (by kernel_rfl) ?_ _
            go_wp2
            go_meet
            exact ⟨⟨rfl, rfl, rfl, rfl, rfl, rfl⟩, by simp, _, _, E6.out.mono (Nat.le_succ k), H6.out⟩
          · as_aux_lemma =>
            subst hc9
            have hsb : (so.toList == (⟨#[]⟩ : ByteArray).toList) = true := by rw [hso]; exact beq_self_eq_true _
            go_wp2_with (go_at_call 21; (have kp := duo_prog H4.out fun _ hN => heal_is hN); (with_reducible refine kp.mono ?_); rintro e w5 ⟨rfl, hD, hsz⟩; (obtain ⟨t0, t1, t2, t3⟩ := hD.box w3.heap.size ko ao bo so (by simp)); (obtain ⟨VL, VP, r0, -, r2, rf⟩ := hD.rcell); (have rf2 := rf 2); (have H5 := Lib.hid hD); clear rf; clear hD hsz kp)
            obtain ⟨R', hE', hD'⟩ := rheal_two HE.out H5.out
            have H6 := Lib.hid hD'
            have E6 := Lib.hid hE'
            clear hE' hD'
            go_meet
            exact ⟨⟨rfl, rfl, rfl, rfl, rfl, rfl⟩, rfl, _, _, E6.out.mono (Nat.le_succ k), H6.out⟩
          · as_aux_lemma =>
            subst hc9
            have hsb := str_ne hso
            have hs5 : ¬ so.toList = [] := fun e => hso (by apply ByteArray.ext; rw [ByteArray.toList_eq] at e; exact Array.toList_inj.1 e)
            have hs2 : (so.toList == []) = false := by rw [beq_eq_false_iff_ne]; exact hs5
            have hs3 : (so.toList != []) = true := by rw [bne_iff_ne]; exact hs5
            have hs4 : so.toList.isEmpty = false := by cases h : so.toList with | nil => exact absurd h hs5 | cons _ _ => rfl
            have hs6 : (⟨#[]⟩ : ByteArray).toList = [] := by rw [ByteArray.toList_eq]
            obtain ⟨d, hd⟩ : ∃ d, (!sameAs S ao bo false) = d := ⟨_, rfl⟩
            go_upto_region 32 with fail
            have hst := (H4.out.later (Below.refl _ _).drew).box w3.heap.size ko ao bo so (by simp)
            refine wp_region_held_drew (S := (fun W => W.cell? ⟨w3.heap.size, 1, none⟩ = some (.int .i64 ao) ∧ W.cell? ⟨w3.heap.size, 2, none⟩ = some (.int .i64 bo))) (by kernel_rfl) ⟨hst.2.1, hst.2.2.1⟩ (fun hHeld => ?_)
            refine wpAnyH_take (i := 0) (oi := ?d321o) (v := ?d321v) ?d321h (by kernel_rfl) (by kernel_rfl) (by kernel_rfl) ?d321q ?d321y hHeld ?d321r
            case d321h => (simp only [List.getElem?_toArray, List.getElem?_cons_zero]; rfl)
            case d321q => exact fun _ _ _ h => h
            case d321y => (refine Or.inl ⟨by first | kernel_rfl | rfl, ?_⟩; intro w hSw; (try dsimp only at hSw); obtain ⟨y1, y2⟩ := hSw; go_simp <;> (try with_reducible rfl))
            try simp only [Act.put, List.setIfInBounds_toArray, List.set_cons_zero, List.set_cons_succ]
            refine wpAnyH_take (i := 1) (oi := ?d322o) (v := ?d322v) ?d322h (by kernel_rfl) (by kernel_rfl) (by kernel_rfl) ?d322q ?d322y hHeld ?d322r
            case d322h => (simp only [List.getElem?_toArray, List.getElem?_cons_succ, List.getElem?_cons_zero]; rfl)
            case d322q => exact fun _ _ _ h => h
            case d322y => (refine Or.inl ⟨by first | kernel_rfl | rfl, ?_⟩; intro w hSw; (try dsimp only at hSw); obtain ⟨y1, y2⟩ := hSw; go_simp <;> (try with_reducible rfl))
            try simp only [Act.put, List.setIfInBounds_toArray, List.set_cons_zero, List.set_cons_succ]
            refine wpAnyH_take (i := 2) (oi := ?d323o) (v := ?d323v) ?d323h (by kernel_rfl) (by kernel_rfl) (by kernel_rfl) ?d323q ?d323y hHeld ?d323r
            case d323h => (simp only [List.getElem?_toArray, List.getElem?_cons_succ, List.getElem?_cons_zero]; rfl)
            case d323q => exact fun _ _ _ h => h
            case d323y => (refine Or.inl ⟨by first | kernel_rfl | rfl, ?_⟩; intro w hSw; (try dsimp only at hSw); obtain ⟨y1, y2⟩ := hSw; go_simp <;> (try with_reducible rfl))
            try simp only [Act.put, List.setIfInBounds_toArray, List.set_cons_zero, List.set_cons_succ]
            refine wpAnyH_take (i := 3) (oi := ?d324o) (v := ?d324v) ?d324h (by kernel_rfl) (by kernel_rfl) (by kernel_rfl) ?d324q ?d324y hHeld ?d324r
            case d324h => (simp only [List.getElem?_toArray, List.getElem?_cons_succ, List.getElem?_cons_zero]; rfl)
            case d324q => exact fun _ _ _ h => h
            case d324y => (refine Or.inl ⟨by first | kernel_rfl | rfl, ?_⟩; intro w hSw; (try dsimp only at hSw); obtain ⟨y1, y2⟩ := hSw; go_simp <;> (try with_reducible rfl))
            try simp only [Act.put, List.setIfInBounds_toArray, List.set_cons_zero, List.set_cons_succ]
            refine wpAnyH_take (i := 4) (oi := ?d325o) (v := ?d325v) ?d325h (by kernel_rfl) (by kernel_rfl) (by kernel_rfl) ?d325q ?d325y hHeld ?d325r
            case d325h => (simp only [List.getElem?_toArray, List.getElem?_cons_succ, List.getElem?_cons_zero]; rfl)
            case d325q => exact fun _ _ _ h => h
            case d325y => (refine Or.inl ⟨by first | kernel_rfl | rfl, ?_⟩; intro w hSw; (try dsimp only at hSw); obtain ⟨y1, y2⟩ := hSw; go_simp <;> (try with_reducible rfl))
            try simp only [Act.put, List.setIfInBounds_toArray, List.set_cons_zero, List.set_cons_succ]
            refine wpAnyH_take (i := 6) (oi := ?d326o) (v := ?d326v) ?d326h (by kernel_rfl) (by kernel_rfl) (by kernel_rfl) ?d326q ?d326y hHeld ?d326r
            case d326h => (simp only [List.getElem?_toArray, List.getElem?_cons_succ, List.getElem?_cons_zero]; rfl)
            case d326q => exact fun _ _ _ h => h
            case d326y => (refine Or.inl ⟨by first | kernel_rfl | rfl, ?_⟩; intro w hSw; (try dsimp only at hSw); obtain ⟨y1, y2⟩ := hSw; go_simp <;> (try with_reducible rfl))
            try simp only [Act.put, List.setIfInBounds_toArray, List.set_cons_zero, List.set_cons_succ]
            refine wpAnyH_take (i := 7) (oi := ?d327o) (v := ?d327v) ?d327h (by kernel_rfl) (by kernel_rfl) (by kernel_rfl) ?d327q ?d327y hHeld ?d327r
            case d327h => (simp only [List.getElem?_toArray, List.getElem?_cons_succ, List.getElem?_cons_zero]; rfl)
            case d327q => exact fun _ _ _ h => h
            case d327y => (refine Or.inl ⟨by first | kernel_rfl | rfl, ?_⟩; intro w hSw; (try dsimp only at hSw); obtain ⟨y1, y2⟩ := hSw; go_simp <;> (try with_reducible rfl))
            try simp only [Act.put, List.setIfInBounds_toArray, List.set_cons_zero, List.set_cons_succ]
            refine wpAnyH_take (i := 8) (oi := ?d328o) (v := ?d328v) ?d328h (by kernel_rfl) (by kernel_rfl) (by kernel_rfl) ?d328q ?d328y hHeld ?d328r
            case d328h => (simp only [List.getElem?_toArray, List.getElem?_cons_succ, List.getElem?_cons_zero]; rfl)
            case d328q => exact fun _ _ _ h => h
            case d328y => (refine Or.inl ⟨by first | kernel_rfl | rfl, ?_⟩; intro w hSw; (try dsimp only at hSw); obtain ⟨y1, y2⟩ := hSw; go_simp <;> (try with_reducible rfl))
            try simp only [Act.put, List.setIfInBounds_toArray, List.set_cons_zero, List.set_cons_succ]
            refine wpAnyH_take (i := 9) (oi := ?d329o) (v := ?d329v) ?d329h (by kernel_rfl) (by kernel_rfl) (by kernel_rfl) ?d329q ?d329y hHeld ?d329r
            case d329h => (simp only [List.getElem?_toArray, List.getElem?_cons_succ, List.getElem?_cons_zero]; rfl)
            case d329q => exact fun _ _ _ h => h
            case d329y => (refine Or.inl ⟨by first | kernel_rfl | rfl, ?_⟩; intro w hSw; (try dsimp only at hSw); obtain ⟨y1, y2⟩ := hSw; go_simp <;> (try with_reducible rfl))
            try simp only [Act.put, List.setIfInBounds_toArray, List.set_cons_zero, List.set_cons_succ]
            refine wpAnyH_take (i := 10) (oi := ?d3210o) (v := ?d3210v) ?d3210h (by kernel_rfl) (by kernel_rfl) (by kernel_rfl) ?d3210q ?d3210y hHeld ?d3210r
            case d3210h => (simp only [List.getElem?_toArray, List.getElem?_cons_succ, List.getElem?_cons_zero]; rfl)
            case d3210q => exact fun _ _ _ h => h
            case d3210y => (refine Or.inl ⟨by first | kernel_rfl | rfl, ?_⟩; intro w hSw; (try dsimp only at hSw); obtain ⟨y1, y2⟩ := hSw; go_simp <;> (try with_reducible rfl))
            try simp only [Act.put, List.setIfInBounds_toArray, List.set_cons_zero, List.set_cons_succ]
            refine wpAnyH_ready (rs := [5]) (by kernel_rfl) (by simp) ?_
            refine (AllReadyH.cons rfl (fun K hK => ?_) AllReadyH.nil)
            go_simp
            (go_at_call 19; (have kp := duo_prog (H4.out.later (Below.refl _ _).drew) fun _ hN => join_is ao bo hN); (simp only [hd] at kp); (with_reducible refine kp.mono ?_); rintro e w5 ⟨rfl, hD, hsz⟩; (obtain ⟨t0, t1, t2, t3⟩ := hD.box w3.heap.size ko ao bo so (by simp)); (have H5 := Lib.hid hD); clear hD hsz kp)
            refine hK.out _ _ (⟨t1, t2⟩) (fun hHeld => ?_)
            clear hK K
            try simp only [Act.put, List.setIfInBounds_toArray, List.set_cons_zero, List.set_cons_succ]
            refine wpAnyH_ready (rs := [11]) (by kernel_rfl) (by simp) ?_
            refine (AllReadyH.cons rfl (fun K hK => ?_) AllReadyH.nil)
            go_simp
            (go_at_call 20; (have kp := rjoin_two ao bo HE.out H5.out); (simp only [hd] at kp); (with_reducible refine kp.mono ?_); rintro e w6 ⟨rfl, ⟨R', hE', hD⟩, hsz⟩; (obtain ⟨t0, t1, t2, t3⟩ := hD.box w3.heap.size ko ao bo so (by simp)); (have H6 := Lib.hid hD); (have E6 := Lib.hid hE'); clear hD hsz kp hE')
            refine hK.out _ _ (⟨t1, t2⟩) (fun hHeld => ?_)
            clear hK K
            try simp only [Act.put, List.setIfInBounds_toArray, List.set_cons_zero, List.set_cons_succ]
            refine wpAnyH_take (i := 12) (oi := ?d3211o) (v := ?d3211v) ?d3211h (by kernel_rfl) (by kernel_rfl) (by kernel_rfl) ?d3211q ?d3211y hHeld ?d3211r
            case d3211h => (simp only [List.getElem?_toArray, List.getElem?_cons_succ, List.getElem?_cons_zero]; rfl)
            case d3211q => exact fun _ _ _ h => h
            case d3211y => (refine Or.inl ⟨by first | kernel_rfl | rfl, ?_⟩; intro w hSw; (try dsimp only at hSw); obtain ⟨y1, y2⟩ := hSw; go_simp <;> (try with_reducible rfl))
            try simp only [Act.put, List.setIfInBounds_toArray, List.set_cons_zero, List.set_cons_succ]
            refine wpAnyH_take (i := 13) (oi := ?d3212o) (v := ?d3212v) ?d3212h (by kernel_rfl) (by kernel_rfl) (by kernel_rfl) ?d3212q ?d3212y hHeld ?d3212r
            case d3212h => (simp only [List.getElem?_toArray, List.getElem?_cons_succ, List.getElem?_cons_zero]; rfl)
            case d3212q => exact fun _ _ _ h => h
            case d3212y => (refine Or.inl ⟨by first | kernel_rfl | rfl, ?_⟩; intro w hSw; (try dsimp only at hSw); obtain ⟨y1, y2⟩ := hSw; go_simp <;> (try with_reducible rfl))
            try simp only [Act.put, List.setIfInBounds_toArray, List.set_cons_zero, List.set_cons_succ]
            refine wpAnyH_done (by kernel_rfl) ?_ _
            go_wp2
            go_meet
            exact ⟨⟨rfl, rfl, rfl, rfl, rfl, rfl⟩, by simp, _, _, E6.out, H6.out⟩
          · as_aux_lemma =>
            obtain ⟨c4, c5, c6, c7, c8, c9, c10, c11⟩ := hcd
            obtain ⟨s, hs⟩ : ∃ s, cutB so 100 = s := ⟨_, rfl⟩
            have hs1 : s.size ≤ 100 := by rw [← hs]; exact cutB_size _ _
            have ksh := fun W => short_is so s 100 100 W rfl (by decide) (Lib.hid hs)
            obtain ⟨z, hz⟩ : ∃ z, sendN S ao bo s = z := ⟨_, rfl⟩
            obtain ⟨d, hd⟩ : ∃ d, (!refuse S ao bo s) = d := ⟨_, rfl⟩
            have HS1 := Lib.hid hs1
            clear hs hs1
            go_wp2_with (first
              | (go_at_call 26; (with_reducible refine (ksh _).mono ?_); rintro e w9 ⟨rfl, rfl⟩)
              | (go_at_call 27; (have kp := duo_prog H4.out fun _ hN => send_is ao bo s (by have := HS1.out; omega) hN); (simp only [hz, hd] at kp); (with_reducible refine kp.mono ?_); rintro e w5 ⟨rfl, hD, hsz⟩; (obtain ⟨t0, t1, t2, t3⟩ := hD.box w3.heap.size ko ao bo so (by simp)); (have H5 := Lib.hid hD); clear hD hsz kp)
              | (go_at_call 28; (have kp := rsend_two ao bo s HE.out (by omega) H5.out); (simp only [hz, hd] at kp); (with_reducible refine kp.mono ?_); rintro e w6 ⟨rfl, ⟨R', hE', hD⟩, hsz⟩; (obtain ⟨t0, t1, t2, t3⟩ := hD.box w3.heap.size ko ao bo so (by simp)); (have H6 := Lib.hid hD); (have E6 := Lib.hid hE'); clear hD hsz kp hE'))
            go_meet
            exact ⟨⟨rfl, rfl, rfl, rfl, rfl, rfl⟩, rfl, _, _, E6.out, H6.out⟩

        case rest =>
          obtain ⟨⟨rfl, rfl, rfl, rfl, rfl, rfl⟩, rfl, S', R', hE', hD'⟩ := hcut
          as_aux_lemma =>
            obtain ⟨n, hn⟩ : ∃ n, S'.mail.length = n := ⟨_, rfl⟩
            have hrn : R'.mail.length = n := by rw [hE'.mail]; exact hn
            obtain ⟨L, hL⟩ : ∃ L, readyL S' = L := ⟨_, rfl⟩
            have hLr : (R'.mail.filter fun m => !isP R'.ps m.f m.t) = L := by
              have := hE'.ready
              unfold rreadyL at this
              rw [this]; exact hL
            have HLK : Hid (L.length ≤ 101) := by
              refine Lib.hid ?_
              have h1 := hE'.len
              have h2 := List.length_filter_le (openB S'.par) S'.mail
              rw [← hL]
              unfold readyL
              omega
            obtain ⟨z, hz⟩ : ∃ z, oldestS S' = z := ⟨_, rfl⟩
            have hzr : maxA R'.mail = z := by rw [hE'.oldest]; exact hz
            obtain ⟨d, hd⟩ : ∃ d, partedB S' ao bo = d := ⟨_, rfl⟩
            have hdr : isP R'.ps ao bo = d := by rw [hE'.par]; exact hd
            have E7 := Lib.hid hE'
            have D7 := Lib.hid hD'
            have F7 := Lib.hid (And.intro hn (And.intro hrn (And.intro hL (And.intro hLr (And.intro hz (And.intro hzr (And.intro hd hdr)))))))
            clear hE' hD' hn hrn hL hLr hz hzr hd hdr t0 t1 t2 t3
            go_upto_region 42 with (first
              | (go_at_call 29; (have k1 := duo_still D7.out fun _ hN => ready_is hN); (rw [F7.out.2.2.1] at k1); (with_reducible refine k1.mono ?_); rintro e w8 ⟨v8, rfl, hR8, hB8⟩; (have D8 := Lib.hid (D7.out.later hB8)); (obtain ⟨a8, c8, rfl⟩ := hR8.slice); (have HR8 := Lib.hid hR8); clear hR8 hB8 k1)
              | (go_at_call 30; (have k1 := duo_rstill D8.out fun _ _ hR => rready_is hR); (rw [F7.out.2.2.2.1] at k1); (with_reducible refine k1.mono ?_); rintro e w9 ⟨v9, rfl, hR9, hB9⟩; (have D9 := Lib.hid (D8.out.later hB9)); (obtain ⟨a9, c9, rfl⟩ := hR9.slice); (have HR9 := Lib.hid hR9); (have HB9 := Lib.hid hB9); clear hR9 hB9 k1))
            have HDr := Lib.hid (D9.out.later (Below.refl _ _).drew)
            obtain ⟨VL, VP, q0, qm, -, -⟩ := HDr.out.rcell
            obtain ⟨la, lc, rfl⟩ := qm.slice
            rw [F7.out.2.1] at q0
            have hst := HDr.out.box w3.heap.size ko ao bo so (by simp)
            have kw := duo_still HDr.out fun _ hN => waits_is hN
            rw [F7.out.1] at kw
            have ko1 := duo_still HDr.out fun _ hN => oldest_is hN
            rw [F7.out.2.2.2.2.1] at ko1
            have ko2 := duo_rstill HDr.out fun _ _ hR => roldest_is hR
            rw [F7.out.2.2.2.2.2.1] at ko2
            have kp1 := duo_still HDr.out fun _ hN => parted_is ao bo hN
            rw [F7.out.2.2.2.2.2.2.1] at kp1
            have kp2 := duo_rstill HDr.out fun _ _ hR => is_is ao bo hR
            rw [F7.out.2.2.2.2.2.2.2] at kp2
            clear qm
            refine wp_region_held_drew (S := (fun W => W.cell? ⟨w1.heap.size + 1, 0, none⟩ = some (.slice la n lc) ∧ W.cell? ⟨w3.heap.size, 1, none⟩ = some (.int .i64 ao) ∧ W.cell? ⟨w3.heap.size, 2, none⟩ = some (.int .i64 bo))) (by kernel_rfl) ⟨q0, hst.2.1, hst.2.2.1⟩ (fun hHeld => ?_)
            refine wpAnyH_take (i := 0) (oi := ?f1o) (v := ?f1v) ?f1h (by kernel_rfl) (by kernel_rfl) (by kernel_rfl) ?f1q ?f1y hHeld ?f1r
            case f1h => (simp only [List.getElem?_toArray, List.getElem?_cons_zero]; rfl)
            case f1q => exact fun _ _ _ h => h
            case f1y => (refine Or.inl ⟨by first | kernel_rfl | rfl, ?_⟩; intro w hSw; (try dsimp only at hSw); obtain ⟨y0, y1, y2⟩ := hSw; go_simp <;> (try with_reducible rfl))
            try simp only [Act.put, List.setIfInBounds_toArray, List.set_cons_zero, List.set_cons_succ]
            refine wpAnyH_take (i := 1) (oi := ?f2o) (v := ?f2v) ?f2h (by kernel_rfl) (by kernel_rfl) (by kernel_rfl) ?f2q ?f2y hHeld ?f2r
            case f2h => (simp only [List.getElem?_toArray, List.getElem?_cons_succ, List.getElem?_cons_zero]; rfl)
            case f2q => exact fun _ _ _ h => h
            case f2y => (refine Or.inl ⟨by first | kernel_rfl | rfl, ?_⟩; intro w hSw; (try dsimp only at hSw); obtain ⟨y0, y1, y2⟩ := hSw; go_simp <;> (try with_reducible rfl))
            try simp only [Act.put, List.setIfInBounds_toArray, List.set_cons_zero, List.set_cons_succ]
            refine wpAnyH_take (i := 2) (oi := ?f3o) (v := ?f3v) ?f3h (by kernel_rfl) (by kernel_rfl) (by kernel_rfl) ?f3q ?f3y hHeld ?f3r
            case f3h => (simp only [List.getElem?_toArray, List.getElem?_cons_succ, List.getElem?_cons_zero]; rfl)
            case f3q => exact fun _ _ _ h => h
            case f3y => (refine Or.inl ⟨by first | kernel_rfl | rfl, ?_⟩; intro w hSw; (try dsimp only at hSw); obtain ⟨y0, y1, y2⟩ := hSw; go_simp <;> (try with_reducible rfl))
            try simp only [Act.put, List.setIfInBounds_toArray, List.set_cons_zero, List.set_cons_succ]
            refine wpAnyH_take (i := 3) (oi := ?f4o) (v := ?f4v) ?f4h (by kernel_rfl) (by kernel_rfl) (by kernel_rfl) ?f4q ?f4y hHeld ?f4r
            case f4h => (simp only [List.getElem?_toArray, List.getElem?_cons_succ, List.getElem?_cons_zero]; rfl)
            case f4q => exact fun _ _ _ h => h
            case f4y => (refine Or.inl ⟨by first | kernel_rfl | rfl, ?_⟩; intro w hSw; (try dsimp only at hSw); obtain ⟨y0, y1, y2⟩ := hSw; go_simp <;> (try with_reducible rfl))
            try simp only [Act.put, List.setIfInBounds_toArray, List.set_cons_zero, List.set_cons_succ]
            refine wpAnyH_take (i := 4) (oi := ?f5o) (v := ?f5v) ?f5h (by kernel_rfl) (by kernel_rfl) (by kernel_rfl) ?f5q ?f5y hHeld ?f5r
            case f5h => (simp only [List.getElem?_toArray, List.getElem?_cons_succ, List.getElem?_cons_zero]; rfl)
            case f5q => exact fun _ _ _ h => h
            case f5y => (refine Or.inl ⟨by first | kernel_rfl | rfl, ?_⟩; intro w hSw; (try dsimp only at hSw); obtain ⟨y0, y1, y2⟩ := hSw; go_simp <;> (try with_reducible rfl))
            try simp only [Act.put, List.setIfInBounds_toArray, List.set_cons_zero, List.set_cons_succ]
            refine wpAnyH_take (i := 5) (oi := ?f6o) (v := ?f6v) ?f6h (by kernel_rfl) (by kernel_rfl) (by kernel_rfl) ?f6q ?f6y hHeld ?f6r
            case f6h => (simp only [List.getElem?_toArray, List.getElem?_cons_succ, List.getElem?_cons_zero]; rfl)
            case f6q => exact fun _ _ _ h => h
            case f6y => (refine Or.inl ⟨by first | kernel_rfl | rfl, ?_⟩; intro w hSw; (try dsimp only at hSw); obtain ⟨y0, y1, y2⟩ := hSw; go_simp <;> (try with_reducible rfl))
            try simp only [Act.put, List.setIfInBounds_toArray, List.set_cons_zero, List.set_cons_succ]
            refine wpAnyH_take (i := 6) (oi := ?f7o) (v := ?f7v) ?f7h (by kernel_rfl) (by kernel_rfl) (by kernel_rfl) ?f7q ?f7y hHeld ?f7r
            case f7h => (simp only [List.getElem?_toArray, List.getElem?_cons_succ, List.getElem?_cons_zero]; rfl)
            case f7q => exact fun _ _ _ h => h
            case f7y => (refine Or.inl ⟨by first | kernel_rfl | rfl, ?_⟩; intro w hSw; (try dsimp only at hSw); obtain ⟨y0, y1, y2⟩ := hSw; go_simp <;> (try with_reducible rfl))
            try simp only [Act.put, List.setIfInBounds_toArray, List.set_cons_zero, List.set_cons_succ]
            refine wpAnyH_take (i := 7) (oi := ?f8o) (v := ?f8v) ?f8h (by kernel_rfl) (by kernel_rfl) (by kernel_rfl) ?f8q ?f8y hHeld ?f8r
            case f8h => (simp only [List.getElem?_toArray, List.getElem?_cons_succ, List.getElem?_cons_zero]; rfl)
            case f8q => exact fun _ _ _ h => h
            case f8y => (refine Or.inl ⟨by first | kernel_rfl | rfl, ?_⟩; intro w hSw; (try dsimp only at hSw); obtain ⟨y0, y1, y2⟩ := hSw; go_simp <;> (try with_reducible rfl))
            try simp only [Act.put, List.setIfInBounds_toArray, List.set_cons_zero, List.set_cons_succ]
            refine wpAnyH_take (i := 8) (oi := ?f9o) (v := ?f9v) ?f9h (by kernel_rfl) (by kernel_rfl) (by kernel_rfl) ?f9q ?f9y hHeld ?f9r
            case f9h => (simp only [List.getElem?_toArray, List.getElem?_cons_succ, List.getElem?_cons_zero]; rfl)
            case f9q => exact fun _ _ _ h => h
            case f9y => (refine Or.inl ⟨by first | kernel_rfl | rfl, ?_⟩; intro w hSw; (try dsimp only at hSw); obtain ⟨y0, y1, y2⟩ := hSw; go_simp <;> (try with_reducible rfl))
            try simp only [Act.put, List.setIfInBounds_toArray, List.set_cons_zero, List.set_cons_succ]
            refine wpAnyH_take (i := 9) (oi := ?f10o) (v := ?f10v) ?f10h (by kernel_rfl) (by kernel_rfl) (by kernel_rfl) ?f10q ?f10y hHeld ?f10r
            case f10h => (simp only [List.getElem?_toArray, List.getElem?_cons_succ, List.getElem?_cons_zero]; rfl)
            case f10q => exact fun _ _ _ h => h
            case f10y => (refine Or.inl ⟨by first | kernel_rfl | rfl, ?_⟩; intro w hSw; (try dsimp only at hSw); obtain ⟨y0, y1, y2⟩ := hSw; go_simp <;> (try with_reducible rfl))
            try simp only [Act.put, List.setIfInBounds_toArray, List.set_cons_zero, List.set_cons_succ]
            refine wpAnyH_take (i := 10) (oi := ?f11o) (v := ?f11v) ?f11h (by kernel_rfl) (by kernel_rfl) (by kernel_rfl) ?f11q ?f11y hHeld ?f11r
            case f11h => (simp only [List.getElem?_toArray, List.getElem?_cons_succ, List.getElem?_cons_zero]; rfl)
            case f11q => exact fun _ _ _ h => h
            case f11y => (refine Or.inl ⟨by first | kernel_rfl | rfl, ?_⟩; intro w hSw; (try dsimp only at hSw); obtain ⟨y0, y1, y2⟩ := hSw; go_simp <;> (try with_reducible rfl))
            try simp only [Act.put, List.setIfInBounds_toArray, List.set_cons_zero, List.set_cons_succ]
            refine wpAnyH_take (i := 12) (oi := ?f12o) (v := ?f12v) ?f12h (by kernel_rfl) (by kernel_rfl) (by kernel_rfl) ?f12q ?f12y hHeld ?f12r
            case f12h => (simp only [List.getElem?_toArray, List.getElem?_cons_succ, List.getElem?_cons_zero]; rfl)
            case f12q => exact fun _ _ _ h => h
            case f12y => (refine Or.inl ⟨by first | kernel_rfl | rfl, ?_⟩; intro w hSw; (try dsimp only at hSw); obtain ⟨y0, y1, y2⟩ := hSw; go_simp <;> (try with_reducible rfl))
            try simp only [Act.put, List.setIfInBounds_toArray, List.set_cons_zero, List.set_cons_succ]
            refine wpAnyH_take (i := 13) (oi := ?f13o) (v := ?f13v) ?f13h (by kernel_rfl) (by kernel_rfl) (by kernel_rfl) ?f13q ?f13y hHeld ?f13r
            case f13h => (simp only [List.getElem?_toArray, List.getElem?_cons_succ, List.getElem?_cons_zero]; rfl)
            case f13q => exact fun _ _ _ h => h
            case f13y => (refine Or.inl ⟨by first | kernel_rfl | rfl, ?_⟩; intro w hSw; (try dsimp only at hSw); obtain ⟨y0, y1, y2⟩ := hSw; go_simp <;> (try with_reducible rfl))
            try simp only [Act.put, List.setIfInBounds_toArray, List.set_cons_zero, List.set_cons_succ]
            refine wpAnyH_take (i := 14) (oi := ?f14o) (v := ?f14v) ?f14h (by kernel_rfl) (by kernel_rfl) (by kernel_rfl) ?f14q ?f14y hHeld ?f14r
            case f14h => (simp only [List.getElem?_toArray, List.getElem?_cons_succ, List.getElem?_cons_zero]; rfl)
            case f14q => exact fun _ _ _ h => h
            case f14y => (refine Or.inl ⟨by first | kernel_rfl | rfl, ?_⟩; intro w hSw; (try dsimp only at hSw); obtain ⟨y0, y1, y2⟩ := hSw; go_simp <;> (try with_reducible rfl))
            try simp only [Act.put, List.setIfInBounds_toArray, List.set_cons_zero, List.set_cons_succ]
            refine wpAnyH_take (i := 15) (oi := ?f15o) (v := ?f15v) ?f15h (by kernel_rfl) (by kernel_rfl) (by kernel_rfl) ?f15q ?f15y hHeld ?f15r
            case f15h => (simp only [List.getElem?_toArray, List.getElem?_cons_succ, List.getElem?_cons_zero]; rfl)
            case f15q => exact fun _ _ _ h => h
            case f15y => (refine Or.inl ⟨by first | kernel_rfl | rfl, ?_⟩; intro w hSw; (try dsimp only at hSw); obtain ⟨y0, y1, y2⟩ := hSw; go_simp <;> (try with_reducible rfl))
            try simp only [Act.put, List.setIfInBounds_toArray, List.set_cons_zero, List.set_cons_succ]
            refine wpAnyH_take (i := 16) (oi := ?f16o) (v := ?f16v) ?f16h (by kernel_rfl) (by kernel_rfl) (by kernel_rfl) ?f16q ?f16y hHeld ?f16r
            case f16h => (simp only [List.getElem?_toArray, List.getElem?_cons_succ, List.getElem?_cons_zero]; rfl)
            case f16q => exact fun _ _ _ h => h
            case f16y => (refine Or.inl ⟨by first | kernel_rfl | rfl, ?_⟩; intro w hSw; (try dsimp only at hSw); obtain ⟨y0, y1, y2⟩ := hSw; go_simp <;> (try with_reducible rfl))
            try simp only [Act.put, List.setIfInBounds_toArray, List.set_cons_zero, List.set_cons_succ]
            refine wpAnyH_ready (rs := [11]) (by kernel_rfl) (by simp) ?_
            refine (AllReadyH.cons rfl (fun K hK => ?_) AllReadyH.nil)
            go_simp
            (go_at_call 31; (with_reducible refine kw.mono ?_); rintro e w' ⟨rfl, rfl⟩)
            refine hK.out _ _ (⟨q0, hst.2.1, hst.2.2.1⟩) (fun hHeld => ?_)
            clear hK K
            try simp only [Act.put, List.setIfInBounds_toArray, List.set_cons_zero, List.set_cons_succ]
            refine wpAnyH_take (i := 17) (oi := ?f17o) (v := ?f17v) ?f17h (by kernel_rfl) (by kernel_rfl) (by kernel_rfl) ?f17q ?f17y hHeld ?f17r
            case f17h => (simp only [List.getElem?_toArray, List.getElem?_cons_succ, List.getElem?_cons_zero]; rfl)
            case f17q => exact fun _ _ _ h => h
            case f17y => (refine Or.inl ⟨by first | kernel_rfl | rfl, ?_⟩; intro w hSw; (try dsimp only at hSw); obtain ⟨y0, y1, y2⟩ := hSw; go_simp <;> (try with_reducible rfl))
            try simp only [Act.put, List.setIfInBounds_toArray, List.set_cons_zero, List.set_cons_succ]
            refine wpAnyH_take (i := 18) (oi := ?f18o) (v := ?f18v) ?f18h (by kernel_rfl) (by kernel_rfl) (by kernel_rfl) ?f18q ?f18y hHeld ?f18r
            case f18h => (simp only [List.getElem?_toArray, List.getElem?_cons_succ, List.getElem?_cons_zero]; rfl)
            case f18q => exact fun _ _ _ h => h
            case f18y => (refine Or.inl ⟨by first | kernel_rfl | rfl, ?_⟩; intro w hSw; (try dsimp only at hSw); obtain ⟨y0, y1, y2⟩ := hSw; go_simp <;> (try with_reducible rfl))
            try simp only [Act.put, List.setIfInBounds_toArray, List.set_cons_zero, List.set_cons_succ]
            refine wpAnyH_take (i := 19) (oi := ?f19o) (v := ?f19v) ?f19h (by kernel_rfl) (by kernel_rfl) (by kernel_rfl) ?f19q ?f19y hHeld ?f19r
            case f19h => (simp only [List.getElem?_toArray, List.getElem?_cons_succ, List.getElem?_cons_zero]; rfl)
            case f19q => exact fun _ _ _ h => h
            case f19y => (refine Or.inl ⟨by first | kernel_rfl | rfl, ?_⟩; intro w hSw; (try dsimp only at hSw); obtain ⟨y0, y1, y2⟩ := hSw; go_simp <;> (try with_reducible rfl))
            try simp only [Act.put, List.setIfInBounds_toArray, List.set_cons_zero, List.set_cons_succ]
            refine wpAnyH_take (i := 20) (oi := ?f20o) (v := ?f20v) ?f20h (by kernel_rfl) (by kernel_rfl) (by kernel_rfl) ?f20q ?f20y hHeld ?f20r
            case f20h => (simp only [List.getElem?_toArray, List.getElem?_cons_succ, List.getElem?_cons_zero]; rfl)
            case f20q => exact fun _ _ _ h => h
            case f20y => (refine Or.inl ⟨by first | kernel_rfl | rfl, ?_⟩; intro w hSw; (try dsimp only at hSw); obtain ⟨y0, y1, y2⟩ := hSw; go_simp <;> (try with_reducible rfl))
            try simp only [Act.put, List.setIfInBounds_toArray, List.set_cons_zero, List.set_cons_succ]
            refine wpAnyH_take (i := 22) (oi := ?f21o) (v := ?f21v) ?f21h (by kernel_rfl) (by kernel_rfl) (by kernel_rfl) ?f21q ?f21y hHeld ?f21r
            case f21h => (simp only [List.getElem?_toArray, List.getElem?_cons_succ, List.getElem?_cons_zero]; rfl)
            case f21q => exact fun _ _ _ h => h
            case f21y => (refine Or.inl ⟨by first | kernel_rfl | rfl, ?_⟩; intro w hSw; (try dsimp only at hSw); obtain ⟨y0, y1, y2⟩ := hSw; go_simp <;> (try with_reducible rfl))
            try simp only [Act.put, List.setIfInBounds_toArray, List.set_cons_zero, List.set_cons_succ]
            refine wpAnyH_ready (rs := [21]) (by kernel_rfl) (by simp) ?_
            refine (AllReadyH.cons rfl (fun K hK => ?_) AllReadyH.nil)
            go_simp
            (go_at_call 32; (with_reducible refine ko1.mono ?_); rintro e w' ⟨rfl, rfl⟩)
            refine hK.out _ _ (⟨q0, hst.2.1, hst.2.2.1⟩) (fun hHeld => ?_)
            clear hK K
            try simp only [Act.put, List.setIfInBounds_toArray, List.set_cons_zero, List.set_cons_succ]
            refine wpAnyH_ready (rs := [23]) (by kernel_rfl) (by simp) ?_
            refine (AllReadyH.cons rfl (fun K hK => ?_) AllReadyH.nil)
            go_simp
            (go_at_call 33; (with_reducible refine ko2.mono ?_); rintro e w' ⟨rfl, rfl⟩)
            refine hK.out _ _ (⟨q0, hst.2.1, hst.2.2.1⟩) (fun hHeld => ?_)
            clear hK K
            try simp only [Act.put, List.setIfInBounds_toArray, List.set_cons_zero, List.set_cons_succ]
            refine wpAnyH_take (i := 24) (oi := ?f22o) (v := ?f22v) ?f22h (by kernel_rfl) (by kernel_rfl) (by kernel_rfl) ?f22q ?f22y hHeld ?f22r
            case f22h => (simp only [List.getElem?_toArray, List.getElem?_cons_succ, List.getElem?_cons_zero]; rfl)
            case f22q => exact fun _ _ _ h => h
            case f22y => (refine Or.inl ⟨by first | kernel_rfl | rfl, ?_⟩; intro w hSw; (try dsimp only at hSw); obtain ⟨y0, y1, y2⟩ := hSw; go_simp <;> (try with_reducible rfl))
            try simp only [Act.put, List.setIfInBounds_toArray, List.set_cons_zero, List.set_cons_succ]
            refine wpAnyH_take (i := 25) (oi := ?f23o) (v := ?f23v) ?f23h (by kernel_rfl) (by kernel_rfl) (by kernel_rfl) ?f23q ?f23y hHeld ?f23r
            case f23h => (simp only [List.getElem?_toArray, List.getElem?_cons_succ, List.getElem?_cons_zero]; rfl)
            case f23q => exact fun _ _ _ h => h
            case f23y => (refine Or.inl ⟨by first | kernel_rfl | rfl, ?_⟩; intro w hSw; (try dsimp only at hSw); obtain ⟨y0, y1, y2⟩ := hSw; go_simp <;> (try with_reducible rfl))
            try simp only [Act.put, List.setIfInBounds_toArray, List.set_cons_zero, List.set_cons_succ]
            refine wpAnyH_take (i := 26) (oi := ?f24o) (v := ?f24v) ?f24h (by kernel_rfl) (by kernel_rfl) (by kernel_rfl) ?f24q ?f24y hHeld ?f24r
            case f24h => (simp only [List.getElem?_toArray, List.getElem?_cons_succ, List.getElem?_cons_zero]; rfl)
            case f24q => exact fun _ _ _ h => h
            case f24y => (refine Or.inl ⟨by first | kernel_rfl | rfl, ?_⟩; intro w hSw; (try dsimp only at hSw); obtain ⟨y0, y1, y2⟩ := hSw; go_simp <;> (try with_reducible rfl))
            try simp only [Act.put, List.setIfInBounds_toArray, List.set_cons_zero, List.set_cons_succ]
            refine wpAnyH_take (i := 27) (oi := ?f25o) (v := ?f25v) ?f25h (by kernel_rfl) (by kernel_rfl) (by kernel_rfl) ?f25q ?f25y hHeld ?f25r
            case f25h => (simp only [List.getElem?_toArray, List.getElem?_cons_succ, List.getElem?_cons_zero]; rfl)
            case f25q => exact fun _ _ _ h => h
            case f25y => (refine Or.inl ⟨by first | kernel_rfl | rfl, ?_⟩; intro w hSw; (try dsimp only at hSw); obtain ⟨y0, y1, y2⟩ := hSw; go_simp <;> (try with_reducible rfl))
            try simp only [Act.put, List.setIfInBounds_toArray, List.set_cons_zero, List.set_cons_succ]
            refine wpAnyH_take (i := 28) (oi := ?f26o) (v := ?f26v) ?f26h (by kernel_rfl) (by kernel_rfl) (by kernel_rfl) ?f26q ?f26y hHeld ?f26r
            case f26h => (simp only [List.getElem?_toArray, List.getElem?_cons_succ, List.getElem?_cons_zero]; rfl)
            case f26q => exact fun _ _ _ h => h
            case f26y => (refine Or.inl ⟨by first | kernel_rfl | rfl, ?_⟩; intro w hSw; (try dsimp only at hSw); obtain ⟨y0, y1, y2⟩ := hSw; go_simp <;> (try with_reducible rfl))
            try simp only [Act.put, List.setIfInBounds_toArray, List.set_cons_zero, List.set_cons_succ]
            refine wpAnyH_take (i := 29) (oi := ?f27o) (v := ?f27v) ?f27h (by kernel_rfl) (by kernel_rfl) (by kernel_rfl) ?f27q ?f27y hHeld ?f27r
            case f27h => (simp only [List.getElem?_toArray, List.getElem?_cons_succ, List.getElem?_cons_zero]; rfl)
            case f27q => exact fun _ _ _ h => h
            case f27y => (refine Or.inl ⟨by first | kernel_rfl | rfl, ?_⟩; intro w hSw; (try dsimp only at hSw); obtain ⟨y0, y1, y2⟩ := hSw; go_simp <;> (try with_reducible rfl))
            try simp only [Act.put, List.setIfInBounds_toArray, List.set_cons_zero, List.set_cons_succ]
            refine wpAnyH_take (i := 30) (oi := ?f28o) (v := ?f28v) ?f28h (by kernel_rfl) (by kernel_rfl) (by kernel_rfl) ?f28q ?f28y hHeld ?f28r
            case f28h => (simp only [List.getElem?_toArray, List.getElem?_cons_succ, List.getElem?_cons_zero]; rfl)
            case f28q => exact fun _ _ _ h => h
            case f28y => (refine Or.inl ⟨by first | kernel_rfl | rfl, ?_⟩; intro w hSw; (try dsimp only at hSw); obtain ⟨y0, y1, y2⟩ := hSw; go_simp <;> (try with_reducible rfl))
            try simp only [Act.put, List.setIfInBounds_toArray, List.set_cons_zero, List.set_cons_succ]
            refine wpAnyH_take (i := 31) (oi := ?f29o) (v := ?f29v) ?f29h (by kernel_rfl) (by kernel_rfl) (by kernel_rfl) ?f29q ?f29y hHeld ?f29r
            case f29h => (simp only [List.getElem?_toArray, List.getElem?_cons_succ, List.getElem?_cons_zero]; rfl)
            case f29q => exact fun _ _ _ h => h
            case f29y => (refine Or.inl ⟨by first | kernel_rfl | rfl, ?_⟩; intro w hSw; (try dsimp only at hSw); obtain ⟨y0, y1, y2⟩ := hSw; go_simp <;> (try with_reducible rfl))
            try simp only [Act.put, List.setIfInBounds_toArray, List.set_cons_zero, List.set_cons_succ]
            refine wpAnyH_take (i := 33) (oi := ?f30o) (v := ?f30v) ?f30h (by kernel_rfl) (by kernel_rfl) (by kernel_rfl) ?f30q ?f30y hHeld ?f30r
            case f30h => (simp only [List.getElem?_toArray, List.getElem?_cons_succ, List.getElem?_cons_zero]; rfl)
            case f30q => exact fun _ _ _ h => h
            case f30y => (refine Or.inl ⟨by first | kernel_rfl | rfl, ?_⟩; intro w hSw; (try dsimp only at hSw); obtain ⟨y0, y1, y2⟩ := hSw; go_simp <;> (try with_reducible rfl))
            try simp only [Act.put, List.setIfInBounds_toArray, List.set_cons_zero, List.set_cons_succ]
            refine wpAnyH_take (i := 34) (oi := ?f31o) (v := ?f31v) ?f31h (by kernel_rfl) (by kernel_rfl) (by kernel_rfl) ?f31q ?f31y hHeld ?f31r
            case f31h => (simp only [List.getElem?_toArray, List.getElem?_cons_succ, List.getElem?_cons_zero]; rfl)
            case f31q => exact fun _ _ _ h => h
            case f31y => (refine Or.inl ⟨by first | kernel_rfl | rfl, ?_⟩; intro w hSw; (try dsimp only at hSw); obtain ⟨y0, y1, y2⟩ := hSw; go_simp <;> (try with_reducible rfl))
            try simp only [Act.put, List.setIfInBounds_toArray, List.set_cons_zero, List.set_cons_succ]
            refine wpAnyH_take (i := 35) (oi := ?f32o) (v := ?f32v) ?f32h (by kernel_rfl) (by kernel_rfl) (by kernel_rfl) ?f32q ?f32y hHeld ?f32r
            case f32h => (simp only [List.getElem?_toArray, List.getElem?_cons_succ, List.getElem?_cons_zero]; rfl)
            case f32q => exact fun _ _ _ h => h
            case f32y => (refine Or.inl ⟨by first | kernel_rfl | rfl, ?_⟩; intro w hSw; (try dsimp only at hSw); obtain ⟨y0, y1, y2⟩ := hSw; go_simp <;> (try with_reducible rfl))
            try simp only [Act.put, List.setIfInBounds_toArray, List.set_cons_zero, List.set_cons_succ]
            refine wpAnyH_take (i := 36) (oi := ?f33o) (v := ?f33v) ?f33h (by kernel_rfl) (by kernel_rfl) (by kernel_rfl) ?f33q ?f33y hHeld ?f33r
            case f33h => (simp only [List.getElem?_toArray, List.getElem?_cons_succ, List.getElem?_cons_zero]; rfl)
            case f33q => exact fun _ _ _ h => h
            case f33y => (refine Or.inl ⟨by first | kernel_rfl | rfl, ?_⟩; intro w hSw; (try dsimp only at hSw); obtain ⟨y0, y1, y2⟩ := hSw; go_simp <;> (try with_reducible rfl))
            try simp only [Act.put, List.setIfInBounds_toArray, List.set_cons_zero, List.set_cons_succ]
            refine wpAnyH_take (i := 37) (oi := ?f34o) (v := ?f34v) ?f34h (by kernel_rfl) (by kernel_rfl) (by kernel_rfl) ?f34q ?f34y hHeld ?f34r
            case f34h => (simp only [List.getElem?_toArray, List.getElem?_cons_succ, List.getElem?_cons_zero]; rfl)
            case f34q => exact fun _ _ _ h => h
            case f34y => (refine Or.inl ⟨by first | kernel_rfl | rfl, ?_⟩; intro w hSw; (try dsimp only at hSw); obtain ⟨y0, y1, y2⟩ := hSw; go_simp <;> (try with_reducible rfl))
            try simp only [Act.put, List.setIfInBounds_toArray, List.set_cons_zero, List.set_cons_succ]
            refine wpAnyH_ready (rs := [32]) (by kernel_rfl) (by simp) ?_
            refine (AllReadyH.cons rfl (fun K hK => ?_) AllReadyH.nil)
            go_simp
            (go_at_call 34; (with_reducible refine kp1.mono ?_); rintro e w' ⟨rfl, rfl⟩)
            refine hK.out _ _ (⟨q0, hst.2.1, hst.2.2.1⟩) (fun hHeld => ?_)
            clear hK K
            try simp only [Act.put, List.setIfInBounds_toArray, List.set_cons_zero, List.set_cons_succ]
            refine wpAnyH_ready (rs := [38]) (by kernel_rfl) (by simp) ?_
            refine (AllReadyH.cons rfl (fun K hK => ?_) AllReadyH.nil)
            go_simp
            (go_at_call 35; (with_reducible refine kp2.mono ?_); rintro e w10 ⟨rfl, hB10⟩; (have HD10 := Lib.hid (HDr.out.later hB10)); (have HB10 := Lib.hid ((Below.refl w9.heap.size w9).drew.trans hB10)); (have q9 := (hB10.cell (p := ⟨w1.heap.size + 1, 0, none⟩) HDr.out.rlt).trans q0); (have hs9 := HD10.out.box w3.heap.size ko ao bo so (by simp)); clear hB10)
            refine hK.out _ _ (⟨q9, hs9.2.1, hs9.2.2.1⟩) (fun hHeld => ?_)
            clear hK K
            try simp only [Act.put, List.setIfInBounds_toArray, List.set_cons_zero, List.set_cons_succ]
            refine wpAnyH_take (i := 39) (oi := ?f35o) (v := ?f35v) ?f35h (by kernel_rfl) (by kernel_rfl) (by kernel_rfl) ?f35q ?f35y hHeld ?f35r
            case f35h => (simp only [List.getElem?_toArray, List.getElem?_cons_succ, List.getElem?_cons_zero]; rfl)
            case f35q => exact fun _ _ _ h => h
            case f35y => (refine Or.inl ⟨by first | kernel_rfl | rfl, ?_⟩; intro w hSw; (try dsimp only at hSw); obtain ⟨y0, y1, y2⟩ := hSw; go_simp <;> (try with_reducible rfl))
            try simp only [Act.put, List.setIfInBounds_toArray, List.set_cons_zero, List.set_cons_succ]
            refine wpAnyH_take (i := 40) (oi := ?f36o) (v := ?f36v) ?f36h (by kernel_rfl) (by kernel_rfl) (by kernel_rfl) ?f36q ?f36y hHeld ?f36r
            case f36h => (simp only [List.getElem?_toArray, List.getElem?_cons_succ, List.getElem?_cons_zero]; rfl)
            case f36q => exact fun _ _ _ h => h
            case f36y => (refine Or.inl ⟨by first | kernel_rfl | rfl, ?_⟩; intro w hSw; (try dsimp only at hSw); obtain ⟨y0, y1, y2⟩ := hSw; go_simp <;> (try with_reducible rfl))
            try simp only [Act.put, List.setIfInBounds_toArray, List.set_cons_zero, List.set_cons_succ]
            refine wpAnyH_done (by kernel_rfl) ?_ _
            go_wp2
            go_loopw [21] (fun i wr => ∃ j : Nat, j ≤ L.length ∧ i = .int .i64 (j : Int) ∧ Below w10.heap.size w10 wr) (fun i _ => L.length - (intOf i).toNat)
            case atStart => exact ⟨0, Nat.zero_le _, rfl, Below.refl _ _⟩
            case round =>
              obtain ⟨j, hj, rfl, hbl⟩ := hrel
              obtain ⟨w11, hw11⟩ : ∃ x, x = wr := ⟨_, rfl⟩
              subst hw11
              have HB11 := Lib.hid hbl
              clear hbl
              by_cases hjl : j < L.length
              · have hji : (j : Int) < (L.length : Int) := by omega
                have hjw : IntKind.i64.wrap ((j : Int) + 1) = (j : Int) + 1 := by have := HLK.out; rw [IntKind.wrap_i64]; omega
                have hb9 : Below w9.heap.size w9 w11 := bel_next HB10.out HB11.out
                have hb8 : Below w8.heap.size w8 w11 := bel_next HB9.out hb9
                obtain ⟨g1, rfl, -, -, hgl1, -, hat1⟩ := (HR8.out.later hb8).block (by omega)
                obtain ⟨g2, rfl, -, -, hgl2, -, hat2⟩ := (HR9.out.later hb9).block (by omega)
                obtain ⟨m0, m1, m2, m3, m4⟩ := hat1 j hjl
                obtain ⟨p0, p1, p2, p3, p4⟩ := hat2 j hjl
                obtain ⟨m, hm⟩ : ∃ m, L[j] = m := ⟨_, rfl⟩
                rw [hm] at m0 m1 m2 m3 m4 p0 p1 p2 p3 p4
                have heq := fun W => meq_run m.n m.f m.t m.s m.a W
                have hdr : ∀ (g o : Nat) (v : Value), g < w11.heap.size → w11.cell? ⟨g, o, none⟩ = some v → w11.drew.cell? ⟨g, o, none⟩ = some v := fun g o v hg h => ((Below.refl w11.heap.size w11).drew.cell (p := ⟨g, o, none⟩) hg).trans h
                have x0 := hdr _ _ _ hgl1 m0
                have x1 := hdr _ _ _ hgl1 m1
                have x2 := hdr _ _ _ hgl1 m2
                have x3 := hdr _ _ _ hgl1 m3
                have x4 := hdr _ _ _ hgl1 m4
                have x5 := hdr _ _ _ hgl2 p0
                have x6 := hdr _ _ _ hgl2 p1
                have x7 := hdr _ _ _ hgl2 p2
                have x8 := hdr _ _ _ hgl2 p3
                have x9 := hdr _ _ _ hgl2 p4
                clear hat1 hat2 hm hb8 hb9 hdr
                go_upto_region 47 with fail
                go_region
                all_goals go_wp2
                all_goals go_roundw
                all_goals (first | (simp [intOf]; omega) | exact ⟨j + 1, by omega, by go_num, HB11.out.trans (Below.refl _ _).drew⟩ | exact ⟨j + 1, by omega, by go_num, HB11.out⟩ | exact ⟨j + 1, by omega, by go_num, bel_next HB11.out (Below.refl _ _).drew⟩)
              · have hji : ¬ (j : Int) < (L.length : Int) := by omega
                have HDN := Lib.hid ((HD10.out.later HB11.out).less (gs := []) (by simp))
                go_wp2
                go_roundw
                case rel => exact ⟨k + 1, S', R', by omega, by omega, by go_num, E7.out, HDN.out⟩
                case measure => simp [intOf]; omega

    · have hgo2 : ¬ ((k : Int) < (len : Int)) ∨ ((k : Int) < (len : Int) ∧ ¬ ((k : Int) < 100)) := by omega
      have HBW := Lib.hid (bel_next HB1.out HD.out.bel)
      rcases hgo2 with g1 | ⟨g1, g2⟩
      all_goals (go_wp2; go_ret; exact ⟨rfl, HBW.out⟩)
end netPlays
end Go.Proofs.Ytnjabhjcnkbgpaa

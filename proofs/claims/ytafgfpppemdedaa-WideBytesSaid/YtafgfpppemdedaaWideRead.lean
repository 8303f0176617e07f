/- Contracts of package wide's Read and of the document's answer for it. -/
import Derived.Test.YtafgfpppemdedaaWideRefCmp2
namespace Go.Proofs.Ytafgfpppemdedaa
open Go.RowKit Go.Proofs.Ytafgfpppemdedaa.Wd

/-- The bytes of a text, as numbers; what Read answers. -/
def sb (s : ByteArray) (i : Nat) : Int := ((s.data.toList.getD i 0).toNat : Int)
theorem sb_range (s : ByteArray) (i : Nat) : 0 ≤ sb s i ∧ sb s i ≤ 255 := by
  unfold sb
  have := (s.data.toList.getD i 0).toNat_lt
  omega
theorem sb_at (s : ByteArray) (i : Nat) (h : i < s.size) : sb s i = (s[i].toNat : Int) := by
  unfold sb
  rw [List.getD_eq_getElem?_getD, List.getElem?_eq_getElem (by rw [← size_list]; exact h)]
  rfl
def ReadIs (s : ByteArray) (x y er : Int) : Prop := if s.size = 16 then Rep x y (sm (tailv (sb s) 16)) ∧ er = 0 else x = 0 ∧ y = 0 ∧ er = 10

theorem or_i64 (P c : Int) (h0 : 0 ≤ c) (h1 : c ≤ 255) : bits .or .i64 (wrap64 (P * 256)) c = wrap64 (P * 256 + c) := by
  obtain ⟨d, rfl⟩ := Int.eq_ofNat_of_zero_le h0
  obtain ⟨t, ht⟩ : ∃ t : Nat, ((P * 256) % 18446744073709551616) = ((t * 256 : Nat) : Int) ∧ t < 72057594037927936 := ⟨((P * 256) % 18446744073709551616 / 256).toNat, by omega⟩
  have e1 : (BitVec.ofInt 64 (wrap64 (P * 256))).toNat = t * 256 := by
    rw [BitVec.toNat_ofInt, wrap64_is]
    have : (((P * 256 + 9223372036854775808) % 18446744073709551616 - 9223372036854775808) % ((2 ^ 64 : Nat) : Int)) = ((t * 256 : Nat) : Int) := by
      show _ % (18446744073709551616 : Int) = _
      omega
    rw [this]; exact Int.toNat_natCast _
  have e2 : (BitVec.ofInt 64 (d : Int)).toNat = d := by
    rw [BitVec.ofInt_natCast, BitVec.toNat_ofNat]; exact Nat.mod_eq_of_lt (by omega)
  have e3 : (t * 256) ||| d = t * 256 + d := by
    have := Nat.shiftLeft_add_eq_or_of_lt (i := 8) (b := d) (by omega) t
    rw [Nat.shiftLeft_eq] at this
    exact this.symm
  show IntKind.i64.wrap ((BitVec.ofInt 64 (wrap64 (P * 256)) ||| BitVec.ofInt 64 (d : Int)).toNat : Int) = _
  rw [BitVec.toNat_or, e1, e2, e3, IntKind.wrap_i64, wrap64_is]
  omega
theorem or_u64 (P c : Int) (hp : 0 ≤ P) (hp1 : P ≤ 72057594037927935) (h0 : 0 ≤ c) (h1 : c ≤ 255) : bits .or .u64 (P * 256) c = P * 256 + c := by
  obtain ⟨d, rfl⟩ := Int.eq_ofNat_of_zero_le h0
  obtain ⟨p, rfl⟩ := Int.eq_ofNat_of_zero_le hp
  have h := bits_or_u64_nat (p * 256) d (by omega) (by omega)
  have e : (p * 256) ||| d = p * 256 + d := by
    have := Nat.shiftLeft_add_eq_or_of_lt (i := 8) (b := d) (by omega) p
    rw [Nat.shiftLeft_eq] at this
    exact this.symm
  rw [e] at h
  simpa using h

set_option maxHeartbeats 2000000 in
theorem read_is (s : ByteArray) (x y er : Int) (w : World) (H : Hid (ReadIs s x y er)) :
    Calls Try.prog 29 #[.string s] w fun e w' => e = .returned (.tuple #[.agg #[.int .i64 (x), .int .u64 (y)], .int .i64 er]) ∧ Below w.heap.size w w' := by
  by_cases h16 : s.size = 16
  · have H2 := H.out
    unfold ReadIs at H2
    rw [if_pos h16] at H2
    obtain ⟨C, rfl⟩ := H2
    obtain ⟨f, hf⟩ : ∃ f, sb s = f := ⟨_, rfl⟩
    have hr : Hid (∀ i, 0 ≤ f i ∧ f i ≤ 255) := fun i => by rw [← hf]; exact sb_range s i
    have hat : Hid (∀ i (h : i < s.size), (s[i].toNat : Int) = f i) := fun i h => by rw [← hf]; exact (sb_at s i h).symm
    rw [hf] at C
    obtain ⟨e1, e2⟩ := rep_horn (d := f) (fun i _ => hr.out i) C (sm_cong _)
    have E1 := Lib.hid e1
    have E2 := Lib.hid e2
    have h16i : ((s.size : Int) == 16) = true := by simp; omega
    have h16n : ((s.size : Int) != 16) = false := by simp; omega
    clear H e1 e2 hf C
    go_enter Try.func29, Try.ntmps29
    go_wp2_with fail
    go_loopw [11] (fun i wr => ∃ k : Nat, k ≤ 8 ∧ i = .int .i64 (k : Int) ∧ WideAt wr (w.heap.size + 1) (wrap64 (horn f 0 k)) (horn f 8 k) ∧ WideAt wr w.heap.size 0 0 ∧ Below w.heap.size w wr) (fun i _ => 8 - (intOf i).toNat)
    case atStart => exact ⟨0, by decide, rfl, ⟨by simp [go_sem, horn, wrap64_is], by simp [go_sem, horn], by simp [go_sem], by simp [go_sem]⟩, ⟨by simp [go_sem], by simp [go_sem], by simp [go_sem], by simp [go_sem]⟩, by (repeat (first | exact Below.refl _ _ | assumption | refine below_add ?_ _ | (refine below_on ?_ (by assumption)) | refine Below.drew ?_ | refine below_drewN ?_ _ | (refine Below.setCell ?_ (by simp; try omega) _) | (refine below_new ?_ _ (by simp; try omega)) | (refine below_next ?_ (by assumption) (by simp; try omega))))⟩
    case round =>
      obtain ⟨k, hk, rfl, R1, R2, hb⟩ := hrel
      by_cases hlt : k < 8
      · have b1 := horn_small (d := f) (o := 0) (fun i _ _ => hr.out i) k hlt
        have b2 := horn_small (d := f) (o := 8) (fun i _ _ => hr.out i) k hlt
        have n1 : Hid (horn f 0 (k + 1) = horn f 0 k * 256 + f k) := by show _ = _; rw [horn, Nat.zero_add]
        have n2 : Hid (horn f 8 (k + 1) = horn f 8 k * 256 + f (8 + k)) := rfl
        have a1 := hat.out k (by omega)
        have a2 := hat.out (8 + k) (by omega)
        have r1 := hr.out k
        have r2 := hr.out (8 + k)
        obtain ⟨P, hP⟩ : ∃ P, horn f 0 k = P := ⟨_, rfl⟩
        obtain ⟨Q, hQ⟩ : ∃ Q, horn f 8 k = Q := ⟨_, rfl⟩
        rw [hP] at b1 n1 R1
        rw [hQ] at b2 n2 R1
        have wP : wrap64 P = P := by rw [wrap64_is]; omega
        rw [wP] at R1
        obtain ⟨u, hu⟩ : ∃ u, f k = u := ⟨_, rfl⟩
        obtain ⟨v, hv⟩ : ∃ v, f (8 + k) = v := ⟨_, rfl⟩
        rw [hu] at a1 r1 n1
        rw [hv] at a2 r2 n2
        have o1 : bits .or .i64 (wrap64 (P * 256)) u = wrap64 (P * 256 + u) := or_i64 P u r1.1 r1.2
        have o2 : bits .or .u64 (Q * 256) v = Q * 256 + v := or_u64 Q v b2.1 b2.2 r2.1 r2.2
        have g0 := R1.c0
        have g1 := R1.c1
        have g2 := R1.f0
        have g3 := R1.f1
        have hk1 : (k : Int) < (s.size : Int) := by omega
        have hk2 : (0 : Int) ≤ (k : Int) := by omega
        have hk3 : (8 : Int) + (k : Int) < (s.size : Int) := by omega
        have hk4 : ((8 : Int) + (k : Int)).toNat = 8 + k := by omega
        have hk5 : IntKind.i64.wrap ((8 : Int) + (k : Int)) = 8 + (k : Int) := by rw [IntKind.wrap_i64]; omega
        have hk6 : (0 : Int) ≤ 8 + (k : Int) := by omega
        have HA1 := Lib.hid R1
        clear hP hQ hu hv R1 wP
        go_wp2_with fail
        go_region
        all_goals
          go_wp2_with fail
          go_region
          all_goals
            go_wp2
            go_roundw
            case rel => exact ⟨k + 1, by omega, by go_num, ⟨by simp [go_sem, g0, n1.out], by simp [go_sem, g1, n2.out], by simp [go_sem, g2], by simp [go_sem, g3]⟩, by (repeat (first | assumption | (refine WideAt.other ?_ _ _ (by simp)) | (refine WideAt.drew ?_) | (refine WideAt.below ?_ (by assumption)))), by (repeat (first | exact Below.refl _ _ | assumption | refine below_add ?_ _ | (refine below_on ?_ (by assumption)) | refine Below.drew ?_ | refine below_drewN ?_ _ | (refine Below.setCell ?_ (by simp; try omega) _) | (refine below_new ?_ _ (by simp; try omega)) | (refine below_next ?_ (by assumption) (by simp; try omega))))⟩
            case measure => simp [intOf]; omega
      · have e : k = 8 := by omega
        subst e
        have g0 := R1.c0
        have g1 := R1.c1
        have o0 := R2.c0
        have o1 := R2.c1
        have o2 := R2.f0
        have o3 := R2.f1
        clear R1 R2
        generalize horn f 0 8 = P at *
        generalize horn f 8 8 = Q at *
        go_wp2
        exact bodyPost_ret (v := .tuple #[.agg #[.int .i64 (wrap64 P), .int .u64 (Q)], .int .i64 0]) (by simp [results, Try.results29, go_sem, o0, o1]) rfl ⟨by rw [E1.out, E2.out, wrap64_is], by (repeat (first | exact Below.refl _ _ | assumption | refine below_add ?_ _ | (refine below_on ?_ (by assumption)) | refine Below.drew ?_ | refine below_drewN ?_ _ | (refine Below.setCell ?_ (by simp; try omega) _) | (refine below_new ?_ _ (by simp; try omega)) | (refine below_next ?_ (by assumption) (by simp; try omega))))⟩
  · have H2 := H.out
    unfold ReadIs at H2
    rw [if_neg h16] at H2
    obtain ⟨rfl, rfl, rfl⟩ := H2
    have h16n : ((s.size : Int) != 16) = true := by simp; omega
    clear H
    go_enter Try.func29, Try.ntmps29
    go_wp2
    exact bodyPost_ret (v := .tuple #[.agg #[.int .i64 (0), .int .u64 (0)], .int .i64 10]) (by simp [results, Try.results29, go_sem]) rfl ⟨rfl, by (repeat (first | exact Below.refl _ _ | assumption | refine below_add ?_ _ | (refine below_on ?_ (by assumption)) | refine Below.drew ?_ | refine below_drewN ?_ _ | (refine Below.setCell ?_ (by simp; try omega) _) | (refine below_new ?_ _ (by simp; try omega)) | (refine below_next ?_ (by assumption) (by simp; try omega))))⟩

set_option maxHeartbeats 2000000 in
theorem refRead_is (s : ByteArray) (x y er : Int) (w : World) (H : Hid (ReadIs s x y er)) :
    Calls Try.prog 30 #[.string s] w fun e w' => e = .returned (.tuple #[.agg #[.int .i64 (x), .int .u64 (y)], .int .i64 er]) ∧ Below w.heap.size w w' := by
  by_cases h16 : s.size = 16
  · have H2 := H.out
    unfold ReadIs at H2
    rw [if_pos h16] at H2
    obtain ⟨C, rfl⟩ := H2
    obtain ⟨f, hf⟩ : ∃ f, sb s = f := ⟨_, rfl⟩
    have hr : Hid (∀ i, 0 ≤ f i ∧ f i ≤ 255) := fun i => by rw [← hf]; exact sb_range s i
    have hat : Hid (∀ i (h : i < s.size), (s[i].toNat : Int) = f i) := fun i h => by rw [← hf]; exact (sb_at s i h).symm
    rw [hf] at C
    have k1 := fun w => number_any f x y _ w (fun i _ => hr.out i) C (sm_cong _)
    have h16i : ((s.size : Int) == 16) = true := by simp; omega
    have h16n : ((s.size : Int) != 16) = false := by simp; omega
    have hO := (WideAt.new w 0 0 24).alloc (.cells (arrOf fun _ => 0) 44)
    have hZ := Arr.zero (w.alloc (.cells #[.int .i64 0, .int .u64 0] 24))
    simp only [World.size_alloc] at hZ
    have HO := Lib.hid hO
    have HZ := Lib.hid hZ
    clear H hf C hO hZ
    go_enter Try.func30, Try.ntmps30
    go_wp2_with fail
    go_loopw [5] (fun i wr => ∃ (k : Nat) (g : Nat → Int), k ≤ 16 ∧ i = .int .i64 (k : Int) ∧ OpRel w wr (w.heap.size + 1) w.heap.size g (fun _ => 0) f k) (fun i _ => 16 - (intOf i).toNat)
    case atStart => exact ⟨0, fun _ => 0, by decide, rfl, ⟨HZ.out, fun i hi => absurd hi (by omega), fun _ _ => rfl, HO.out, by (repeat (first | exact Below.refl _ _ | assumption | refine below_add ?_ _ | (refine below_on ?_ (by assumption)) | refine Below.drew ?_ | refine below_drewN ?_ _ | (refine Below.setCell ?_ (by simp; try omega) _) | (refine below_new ?_ _ (by simp; try omega)) | (refine below_next ?_ (by assumption) (by simp; try omega)))), by omega, by omega⟩⟩
    case round =>
      obtain ⟨k, g, hk, rfl, R⟩ := hrel
      by_cases hlt : k < 16
      · have c1 := (R.arr k hlt).1
        have f1 := (R.arr k hlt).2
        have N := Lib.hid (R.next hlt)
        have a1 := hat.out k (by omega)
        have r1 := hr.out k
        obtain ⟨u, hu⟩ : ∃ u, f k = u := ⟨_, rfl⟩
        rw [hu] at a1 r1 N
        have hk1 : (k : Int) < (s.size : Int) := by omega
        have hk2 : (0 : Int) ≤ (k : Int) := by omega
        have hk3 : (k : Int) < 16 := by omega
        clear R hu k1 HO HZ
        go_wp2
        go_roundw
        case rel => exact ⟨k + 1, _, by omega, by go_num, N.out⟩
        case measure => simp [intOf]; omega
      · have e : k = 16 := by omega
        subst e
        have hall := R.all
        have hO1 := R.out
        have hb1 := R.below
        clear R HO HZ
        go_wp2_with (first
          | (refine wpList_load_arr hall rfl _ rfl rfl ?_)
          | (go_at_call 35; (with_reducible refine (k1 _).mono ?_); rintro e wn ⟨rfl, hbn⟩; have hO3 := hO1.below hbn; have o0 := hO3.c0; have o1 := hO3.c1; have o2 := hO3.f0; have o3 := hO3.f1))
        exact bodyPost_ret (v := .tuple #[.agg #[.int .i64 (x), .int .u64 (y)], .int .i64 0]) (by simp [results, Try.results30, go_sem, o0, o1]) rfl ⟨rfl, by (repeat (first | exact Below.refl _ _ | assumption | refine below_add ?_ _ | (refine below_on ?_ (by assumption)) | refine Below.drew ?_ | refine below_drewN ?_ _ | (refine Below.setCell ?_ (by simp; try omega) _) | (refine below_new ?_ _ (by simp; try omega)) | (refine below_next ?_ (by assumption) (by simp; try omega))))⟩
  · have H2 := H.out
    unfold ReadIs at H2
    rw [if_neg h16] at H2
    obtain ⟨rfl, rfl, rfl⟩ := H2
    have h16n : ((s.size : Int) != 16) = true := by simp; omega
    clear H
    go_enter Try.func30, Try.ntmps30
    go_wp2
    exact bodyPost_ret (v := .tuple #[.agg #[.int .i64 (0), .int .u64 (0)], .int .i64 10]) (by simp [results, Try.results30, go_sem]) rfl ⟨rfl, by (repeat (first | exact Below.refl _ _ | assumption | refine below_add ?_ _ | (refine below_on ?_ (by assumption)) | refine Below.drew ?_ | refine below_drewN ?_ _ | (refine Below.setCell ?_ (by simp; try omega) _) | (refine below_new ?_ _ (by simp; try omega)) | (refine below_next ?_ (by assumption) (by simp; try omega))))⟩
end Go.Proofs.Ytafgfpppemdedaa

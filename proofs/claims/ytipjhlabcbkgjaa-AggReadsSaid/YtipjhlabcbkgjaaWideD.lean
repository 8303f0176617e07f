/- Joined: WideRead, WideBytes. -/
import Derived.Test.YtipjhlabcbkgjaaWideC
/- Contracts of package wide's Read and of the document's answer for it. -/
namespace Go.Proofs.Ytipjhlabcbkgjaa
open Go.RowKit Go.Proofs.Ytipjhlabcbkgjaa.Wd

/-- The bytes of a text, as numbers; what Read answers. -/
def sb (s : ByteArray) (i : Nat) : Int := ((s.data.toList.getD i 0).toNat : Int)
theorem sb_range (s : ByteArray) (i : Nat) : 0 ≤ sb s i ∧ sb s i ≤ 255 := by
  unfold sb
  have := (s.data.toList.getD i 0).toNat_lt
  omega
theorem sb_at (s : ByteArray) (i : Nat) (h : i < s.size) : sb s i = (s[i].toNat : Int) := by
  unfold sb
  rw [List.getD_eq_getElem?_getD, List.getElem?_eq_getElem (by rw [← size_list]; exact h)]
  rfl
def ReadIs (s : ByteArray) (x y er : Int) : Prop := if s.size = 16 then Rep x y (sm (tailv (sb s) 16)) ∧ er = 0 else x = 0 ∧ y = 0 ∧ er = 10

theorem or_i64 (P c : Int) (h0 : 0 ≤ c) (h1 : c ≤ 255) : bits .or .i64 (wrap64 (P * 256)) c = wrap64 (P * 256 + c) := by
  obtain ⟨d, rfl⟩ := Int.eq_ofNat_of_zero_le h0
  obtain ⟨t, ht⟩ : ∃ t : Nat, ((P * 256) % 18446744073709551616) = ((t * 256 : Nat) : Int) ∧ t < 72057594037927936 := ⟨((P * 256) % 18446744073709551616 / 256).toNat, by omega⟩
  have e1 : (BitVec.ofInt 64 (wrap64 (P * 256))).toNat = t * 256 := by
    rw [BitVec.toNat_ofInt, wrap64_is]
    have : (((P * 256 + 9223372036854775808) % 18446744073709551616 - 9223372036854775808) % ((2 ^ 64 : Nat) : Int)) = ((t * 256 : Nat) : Int) := by
      show _ % (18446744073709551616 : Int) = _
      omega
    rw [this]; exact Int.toNat_natCast _
  have e2 : (BitVec.ofInt 64 (d : Int)).toNat = d := by
    rw [BitVec.ofInt_natCast, BitVec.toNat_ofNat]; exact Nat.mod_eq_of_lt (by omega)
  have e3 : (t * 256) ||| d = t * 256 + d := by
    have := Nat.shiftLeft_add_eq_or_of_lt (i := 8) (b := d) (by omega) t
    rw [Nat.shiftLeft_eq] at this
    exact this.symm
  show IntKind.i64.wrap ((BitVec.ofInt 64 (wrap64 (P * 256)) ||| BitVec.ofInt 64 (d : Int)).toNat : Int) = _
  rw [BitVec.toNat_or, e1, e2, e3, IntKind.wrap_i64, wrap64_is]
  omega
theorem or_u64 (P c : Int) (hp : 0 ≤ P) (hp1 : P ≤ 72057594037927935) (h0 : 0 ≤ c) (h1 : c ≤ 255) : bits .or .u64 (P * 256) c = P * 256 + c := by
  obtain ⟨d, rfl⟩ := Int.eq_ofNat_of_zero_le h0
  obtain ⟨p, rfl⟩ := Int.eq_ofNat_of_zero_le hp
  have h := bits_or_u64_nat (p * 256) d (by omega) (by omega)
  have e : (p * 256) ||| d = p * 256 + d := by
    have := Nat.shiftLeft_add_eq_or_of_lt (i := 8) (b := d) (by omega) p
    rw [Nat.shiftLeft_eq] at this
    exact this.symm
  rw [e] at h
  simpa using h

set_option maxHeartbeats 2000000 in
theorem wread_is (s : ByteArray) (x y er : Int) (w : World) (H : Hid (ReadIs s x y er)) :
    Calls Try.prog 77 #[.string s] w fun e w' => e = .returned (.tuple #[.agg #[.int .i64 (x), .int .u64 (y)], .int .i64 er]) ∧ Below w.heap.size w w' := by
  by_cases h16 : s.size = 16
  · have H2 := H.out
    unfold ReadIs at H2
    rw [if_pos h16] at H2
    obtain ⟨C, rfl⟩ := H2
    obtain ⟨f, hf⟩ : ∃ f, sb s = f := ⟨_, rfl⟩
    have hr : Hid (∀ i, 0 ≤ f i ∧ f i ≤ 255) := fun i => by rw [← hf]; exact sb_range s i
    have hat : Hid (∀ i (h : i < s.size), (s[i].toNat : Int) = f i) := fun i h => by rw [← hf]; exact (sb_at s i h).symm
    rw [hf] at C
    obtain ⟨e1, e2⟩ := rep_horn (d := f) (fun i _ => hr.out i) C (sm_cong _)
    have E1 := Lib.hid e1
    have E2 := Lib.hid e2
    have h16i : ((s.size : Int) == 16) = true := by simp; omega
    have h16n : ((s.size : Int) != 16) = false := by simp; omega
    clear H e1 e2 hf C
    go_enter Try.func77, Try.ntmps77
    go_wp2_with fail
    go_loopw [11] (fun i wr => ∃ k : Nat, k ≤ 8 ∧ i = .int .i64 (k : Int) ∧ WideAt wr (w.heap.size + 1) (wrap64 (horn f 0 k)) (horn f 8 k) ∧ WideAt wr w.heap.size 0 0 ∧ Below w.heap.size w wr) (fun i _ => 8 - (intOf i).toNat)
    case atStart => exact ⟨0, by decide, rfl, ⟨by simp [go_sem, horn, wrap64_is], by simp [go_sem, horn], by simp [go_sem], by simp [go_sem]⟩, ⟨by simp [go_sem], by simp [go_sem], by simp [go_sem], by simp [go_sem]⟩, by (repeat (first | exact Below.refl _ _ | assumption | refine below_add ?_ _ | (refine below_on ?_ (by assumption)) | refine Below.drew ?_ | refine below_drewN ?_ _ | (refine Below.setCell ?_ (by simp; try omega) _) | (refine below_new ?_ _ (by simp; try omega)) | (refine below_next ?_ (by assumption) (by simp; try omega))))⟩
    case round =>
      obtain ⟨k, hk, rfl, R1, R2, hb⟩ := hrel
      by_cases hlt : k < 8
      · have b1 := horn_small (d := f) (o := 0) (fun i _ _ => hr.out i) k hlt
        have b2 := horn_small (d := f) (o := 8) (fun i _ _ => hr.out i) k hlt
        have n1 : Hid (horn f 0 (k + 1) = horn f 0 k * 256 + f k) := by show _ = _; rw [horn, Nat.zero_add]
        have n2 : Hid (horn f 8 (k + 1) = horn f 8 k * 256 + f (8 + k)) := rfl
        have a1 := hat.out k (by omega)
        have a2 := hat.out (8 + k) (by omega)
        have r1 := hr.out k
        have r2 := hr.out (8 + k)
        obtain ⟨P, hP⟩ : ∃ P, horn f 0 k = P := ⟨_, rfl⟩
        obtain ⟨Q, hQ⟩ : ∃ Q, horn f 8 k = Q := ⟨_, rfl⟩
        rw [hP] at b1 n1 R1
        rw [hQ] at b2 n2 R1
        have wP : wrap64 P = P := by rw [wrap64_is]; omega
        rw [wP] at R1
        obtain ⟨u, hu⟩ : ∃ u, f k = u := ⟨_, rfl⟩
        obtain ⟨v, hv⟩ : ∃ v, f (8 + k) = v := ⟨_, rfl⟩
        rw [hu] at a1 r1 n1
        rw [hv] at a2 r2 n2
        have o1 : bits .or .i64 (wrap64 (P * 256)) u = wrap64 (P * 256 + u) := or_i64 P u r1.1 r1.2
        have o2 : bits .or .u64 (Q * 256) v = Q * 256 + v := or_u64 Q v b2.1 b2.2 r2.1 r2.2
        have g0 := R1.c0
        have g1 := R1.c1
        have g2 := R1.f0
        have g3 := R1.f1
        have hk1 : (k : Int) < (s.size : Int) := by omega
        have hk2 : (0 : Int) ≤ (k : Int) := by omega
        have hk3 : (8 : Int) + (k : Int) < (s.size : Int) := by omega
        have hk4 : ((8 : Int) + (k : Int)).toNat = 8 + k := by omega
        have hk5 : IntKind.i64.wrap ((8 : Int) + (k : Int)) = 8 + (k : Int) := by rw [IntKind.wrap_i64]; omega
        have hk6 : (0 : Int) ≤ 8 + (k : Int) := by omega
        have HA1 := Lib.hid R1
        clear hP hQ hu hv R1 wP
        go_wp2_with fail
        go_region
        all_goals
          go_wp2_with fail
          go_region
          all_goals
            go_wp2
            go_roundw
            case rel => exact ⟨k + 1, by omega, by go_num, ⟨by simp [go_sem, g0, n1.out], by simp [go_sem, g1, n2.out], by simp [go_sem, g2], by simp [go_sem, g3]⟩, by (repeat (first | assumption | (refine WideAt.other ?_ _ _ (by simp)) | (refine WideAt.drew ?_) | (refine WideAt.below ?_ (by assumption)))), by (repeat (first | exact Below.refl _ _ | assumption | refine below_add ?_ _ | (refine below_on ?_ (by assumption)) | refine Below.drew ?_ | refine below_drewN ?_ _ | (refine Below.setCell ?_ (by simp; try omega) _) | (refine below_new ?_ _ (by simp; try omega)) | (refine below_next ?_ (by assumption) (by simp; try omega))))⟩
            case measure => simp [intOf]; omega
      · have e : k = 8 := by omega
        subst e
        have g0 := R1.c0
        have g1 := R1.c1
        have o0 := R2.c0
        have o1 := R2.c1
        have o2 := R2.f0
        have o3 := R2.f1
        clear R1 R2
        generalize horn f 0 8 = P at *
        generalize horn f 8 8 = Q at *
        go_wp2
        exact bodyPost_ret (v := .tuple #[.agg #[.int .i64 (wrap64 P), .int .u64 (Q)], .int .i64 0]) (by simp [results, Try.results77, go_sem, o0, o1]) rfl ⟨by rw [E1.out, E2.out, wrap64_is], by (repeat (first | exact Below.refl _ _ | assumption | refine below_add ?_ _ | (refine below_on ?_ (by assumption)) | refine Below.drew ?_ | refine below_drewN ?_ _ | (refine Below.setCell ?_ (by simp; try omega) _) | (refine below_new ?_ _ (by simp; try omega)) | (refine below_next ?_ (by assumption) (by simp; try omega))))⟩
  · have H2 := H.out
    unfold ReadIs at H2
    rw [if_neg h16] at H2
    obtain ⟨rfl, rfl, rfl⟩ := H2
    have h16n : ((s.size : Int) != 16) = true := by simp; omega
    clear H
    go_enter Try.func77, Try.ntmps77
    go_wp2
    exact bodyPost_ret (v := .tuple #[.agg #[.int .i64 (0), .int .u64 (0)], .int .i64 10]) (by simp [results, Try.results77, go_sem]) rfl ⟨rfl, by (repeat (first | exact Below.refl _ _ | assumption | refine below_add ?_ _ | (refine below_on ?_ (by assumption)) | refine Below.drew ?_ | refine below_drewN ?_ _ | (refine Below.setCell ?_ (by simp; try omega) _) | (refine below_new ?_ _ (by simp; try omega)) | (refine below_next ?_ (by assumption) (by simp; try omega))))⟩

set_option maxHeartbeats 2000000 in
theorem refRead_is (s : ByteArray) (x y er : Int) (w : World) (H : Hid (ReadIs s x y er)) :
    Calls Try.prog 56 #[.string s] w fun e w' => e = .returned (.tuple #[.agg #[.int .i64 (x), .int .u64 (y)], .int .i64 er]) ∧ Below w.heap.size w w' := by
  by_cases h16 : s.size = 16
  · have H2 := H.out
    unfold ReadIs at H2
    rw [if_pos h16] at H2
    obtain ⟨C, rfl⟩ := H2
    obtain ⟨f, hf⟩ : ∃ f, sb s = f := ⟨_, rfl⟩
    have hr : Hid (∀ i, 0 ≤ f i ∧ f i ≤ 255) := fun i => by rw [← hf]; exact sb_range s i
    have hat : Hid (∀ i (h : i < s.size), (s[i].toNat : Int) = f i) := fun i h => by rw [← hf]; exact (sb_at s i h).symm
    rw [hf] at C
    have k1 := fun w => number_any f x y _ w (fun i _ => hr.out i) C (sm_cong _)
    have h16i : ((s.size : Int) == 16) = true := by simp; omega
    have h16n : ((s.size : Int) != 16) = false := by simp; omega
    have hO := (WideAt.new w 0 0 24).alloc (.cells (arrOf fun _ => 0) 88)
    have hZ := Arr.wzero (w.alloc (.cells #[.int .i64 0, .int .u64 0] 24))
    simp only [World.size_alloc] at hZ
    have HO := Lib.hid hO
    have HZ := Lib.hid hZ
    clear H hf C hO hZ
    go_enter Try.func56, Try.ntmps56
    go_wp2_with fail
    go_loopw [5] (fun i wr => ∃ (k : Nat) (g : Nat → Int), k ≤ 16 ∧ i = .int .i64 (k : Int) ∧ OpRel w wr (w.heap.size + 1) w.heap.size g (fun _ => 0) f k) (fun i _ => 16 - (intOf i).toNat)
    case atStart => exact ⟨0, fun _ => 0, by decide, rfl, ⟨HZ.out, fun i hi => absurd hi (by omega), fun _ _ => rfl, HO.out, by (repeat (first | exact Below.refl _ _ | assumption | refine below_add ?_ _ | (refine below_on ?_ (by assumption)) | refine Below.drew ?_ | refine below_drewN ?_ _ | (refine Below.setCell ?_ (by simp; try omega) _) | (refine below_new ?_ _ (by simp; try omega)) | (refine below_next ?_ (by assumption) (by simp; try omega)))), by omega, by omega⟩⟩
    case round =>
      obtain ⟨k, g, hk, rfl, R⟩ := hrel
      by_cases hlt : k < 16
      · have c1 := (R.arr k hlt).1
        have f1 := (R.arr k hlt).2
        have N := Lib.hid (R.next hlt)
        have a1 := hat.out k (by omega)
        have r1 := hr.out k
        obtain ⟨u, hu⟩ : ∃ u, f k = u := ⟨_, rfl⟩
        rw [hu] at a1 r1 N
        have hk1 : (k : Int) < (s.size : Int) := by omega
        have hk2 : (0 : Int) ≤ (k : Int) := by omega
        have hk3 : (k : Int) < 16 := by omega
        clear R hu k1 HO HZ
        go_wp2
        go_roundw
        case rel => exact ⟨k + 1, _, by omega, by go_num, N.out⟩
        case measure => simp [intOf]; omega
      · have e : k = 16 := by omega
        subst e
        have hall := R.all
        have hO1 := R.out
        have hb1 := R.below
        clear R HO HZ
        go_wp2_with (first
          | (refine wwpList_load_arr hall rfl _ rfl rfl ?_)
          | (go_at_call 68; (with_reducible refine (k1 _).mono ?_); rintro e wn ⟨rfl, hbn⟩; have hO3 := hO1.below hbn; have o0 := hO3.c0; have o1 := hO3.c1; have o2 := hO3.f0; have o3 := hO3.f1))
        exact bodyPost_ret (v := .tuple #[.agg #[.int .i64 (x), .int .u64 (y)], .int .i64 0]) (by simp [results, Try.results56, go_sem, o0, o1]) rfl ⟨rfl, by (repeat (first | exact Below.refl _ _ | assumption | refine below_add ?_ _ | (refine below_on ?_ (by assumption)) | refine Below.drew ?_ | refine below_drewN ?_ _ | (refine Below.setCell ?_ (by simp; try omega) _) | (refine below_new ?_ _ (by simp; try omega)) | (refine below_next ?_ (by assumption) (by simp; try omega))))⟩
  · have H2 := H.out
    unfold ReadIs at H2
    rw [if_neg h16] at H2
    obtain ⟨rfl, rfl, rfl⟩ := H2
    have h16n : ((s.size : Int) != 16) = true := by simp; omega
    clear H
    go_enter Try.func56, Try.ntmps56
    go_wp2
    exact bodyPost_ret (v := .tuple #[.agg #[.int .i64 (0), .int .u64 (0)], .int .i64 10]) (by simp [results, Try.results56, go_sem]) rfl ⟨rfl, by (repeat (first | exact Below.refl _ _ | assumption | refine below_add ?_ _ | (refine below_on ?_ (by assumption)) | refine Below.drew ?_ | refine below_drewN ?_ _ | (refine Below.setCell ?_ (by simp; try omega) _) | (refine below_new ?_ _ (by simp; try omega)) | (refine below_next ?_ (by assumption) (by simp; try omega))))⟩
end Go.Proofs.Ytipjhlabcbkgjaa

/- Contracts of package wide's Bytes and of the document's answer for it. -/
set_option maxRecDepth 20000
namespace Go.Proofs.Ytipjhlabcbkgjaa
open Go.RowKit Go.Proofs.Ytipjhlabcbkgjaa.Wd

/-- The sixteen bytes of a number. -/
def wideB (h l : Int) : ByteArray := ⟨((List.range 16).map fun i => UInt8.ofNat (dg h l i).toNat).toArray⟩
theorem dg_byte (h l : Int) (i : Nat) : (((UInt8.ofNat (dg h l i).toNat).toNat : Nat) : Int) = dg h l i := by
  have := dg_range h l i
  rw [UInt8.toNat_ofNat', Nat.mod_eq_of_lt (by omega)]
  omega
theorem shr8 (h : Int) (j : Nat) (hj : j < 8) : IntKind.u8.wrap (h / 256 ^ j) = (h % 18446744073709551616) / 256 ^ j % 256 := by
  rw [IntKind.wrap_u8]
  match j, hj with
  | 0, _ => simp only [Int.reducePow]; omega
  | 1, _ => simp only [Int.reducePow]; omega
  | 2, _ => simp only [Int.reducePow]; omega
  | 3, _ => simp only [Int.reducePow]; omega
  | 4, _ => simp only [Int.reducePow]; omega
  | 5, _ => simp only [Int.reducePow]; omega
  | 6, _ => simp only [Int.reducePow]; omega
  | 7, _ => simp only [Int.reducePow]; omega

theorem lit16 (x : Nat → Int) (j : Nat) (h : j < 16) : (#[.int .u8 (x 0), .int .u8 (x 1), .int .u8 (x 2), .int .u8 (x 3), .int .u8 (x 4), .int .u8 (x 5), .int .u8 (x 6), .int .u8 (x 7), .int .u8 (x 8), .int .u8 (x 9), .int .u8 (x 10), .int .u8 (x 11), .int .u8 (x 12), .int .u8 (x 13), .int .u8 (x 14), .int .u8 (x 15)] : Array Value)[j]? = some (.int .u8 (x j)) := by
  match j, h with
  | 0, _ => rfl
  | 1, _ => rfl
  | 2, _ => rfl
  | 3, _ => rfl
  | 4, _ => rfl
  | 5, _ => rfl
  | 6, _ => rfl
  | 7, _ => rfl
  | 8, _ => rfl
  | 9, _ => rfl
  | 10, _ => rfl
  | 11, _ => rfl
  | 12, _ => rfl
  | 13, _ => rfl
  | 14, _ => rfl
  | 15, _ => rfl
  | n + 16, h => exact absurd h (by omega)
/-- The cells of sixteen bytes, made into a text. -/
theorem back16 (x : Nat → Int) (t : ByteArray) (ht : Hid (∀ i, i < 16 → ((t.data.toList.getD i 0).toNat : Int) = x i)) (hz : Hid (t.size = 16)) (w : World) (T : TypeId) (b : Nat) (hb : b = w.heap.size) :
    (convert 92 9 (.slice (some ⟨b, 0, none⟩) 16 16)).run Try.prog (w.alloc (.cells #[.int .u8 (x 0), .int .u8 (x 1), .int .u8 (x 2), .int .u8 (x 3), .int .u8 (x 4), .int .u8 (x 5), .int .u8 (x 6), .int .u8 (x 7), .int .u8 (x 8), .int .u8 (x 9), .int .u8 (x 10), .int .u8 (x 11), .int .u8 (x 12), .int .u8 (x 13), .int .u8 (x 14), .int .u8 (x 15)] T)) =
      .ok (.string t) (w.alloc (.cells #[.int .u8 (x 0), .int .u8 (x 1), .int .u8 (x 2), .int .u8 (x 3), .int .u8 (x 4), .int .u8 (x 5), .int .u8 (x 6), .int .u8 (x 7), .int .u8 (x 8), .int .u8 (x 9), .int .u8 (x 10), .int .u8 (x 11), .int .u8 (x 12), .int .u8 (x 13), .int .u8 (x 14), .int .u8 (x 15)] T)) := by
  subst hb
  have hl : t.data.toList.length = 16 := by rw [← size_list]; exact hz.out
  have key := run_convert_bytes_back (P := Try.prog) (w.alloc (.cells #[.int .u8 (x 0), .int .u8 (x 1), .int .u8 (x 2), .int .u8 (x 3), .int .u8 (x 4), .int .u8 (x 5), .int .u8 (x 6), .int .u8 (x 7), .int .u8 (x 8), .int .u8 (x 9), .int .u8 (x 10), .int .u8 (x 11), .int .u8 (x 12), .int .u8 (x 13), .int .u8 (x 14), .int .u8 (x 15)] T)) 92 9 5 ⟨w.heap.size, 0, none⟩ 16 t.data.toList Try.underlying92 Try.underlying5 Try.underlying9 fun j hj => by
    have hj' : j < 16 := by omega
    have hp : (⟨w.heap.size, 0, none⟩ : Addr).add j = ⟨w.heap.size, j, none⟩ := by unfold Addr.add; split <;> simp_all
    have e := ht.out j hj'
    rw [List.getD_eq_getElem?_getD, List.getElem?_eq_getElem hj] at e
    rw [hp, World.cell?_alloc_mark]
    have e2 : ((t.data.toList[j]).toNat : Int) = x j := e
    rw [e2]
    exact lit16 x j hj'
  rw [hl] at key
  simpa using key

set_option maxHeartbeats 4000000 in
theorem wbytes_is (h l : Int) (t : ByteArray) (w : World) (ht : Hid (wideB h l = t)) :
    Calls Try.prog 40 #[.agg #[.int .i64 (h), .int .u64 (l)]] w fun e w' => e = .returned (.string t) ∧ Below w.heap.size w w' := by
  obtain ⟨x, hx⟩ : ∃ x, dg h l = x := ⟨_, rfl⟩
  have hb : ∀ i, i < 16 → ((t.data.toList.getD i 0).toNat : Int) = x i := fun i hi => by
    rw [← ht.out, ← hx]
    have : (wideB h l).data.toList.getD i 0 = UInt8.ofNat (dg h l i).toNat := by
      unfold wideB
      rw [List.getD_eq_getElem?_getD]; simp [hi]
    rw [this, dg_byte]
  have hz : t.size = 16 := by rw [← ht.out]; unfold wideB; rw [size_list]; simp
  have hd : ∀ i, i < 8 → IntKind.u8.wrap (h / 256 ^ (7 - i)) = x i := fun i hi => by
    rw [shr8 h (7 - i) (by omega), ← hx]; unfold dg; rw [if_pos hi]
  have he : ∀ i, ¬ i < 8 → IntKind.u8.wrap (l / 256 ^ (15 - i)) = x i := fun i hi => by
    rw [IntKind.wrap_u8, ← hx]; unfold dg; rw [if_neg hi]
  have d0 : IntKind.u8.wrap (h / 72057594037927936) = x 0 := hd 0 (by decide)
  have d1 : IntKind.u8.wrap (h / 281474976710656) = x 1 := hd 1 (by decide)
  have d2 : IntKind.u8.wrap (h / 1099511627776) = x 2 := hd 2 (by decide)
  have d3 : IntKind.u8.wrap (h / 4294967296) = x 3 := hd 3 (by decide)
  have d4 : IntKind.u8.wrap (h / 16777216) = x 4 := hd 4 (by decide)
  have d5 : IntKind.u8.wrap (h / 65536) = x 5 := hd 5 (by decide)
  have d6 : IntKind.u8.wrap (h / 256) = x 6 := hd 6 (by decide)
  have d7 : IntKind.u8.wrap h = x 7 := by have := hd 7 (by decide); simpa using this
  have d8 : IntKind.u8.wrap (l / 72057594037927936) = x 8 := he 8 (by decide)
  have d9 : IntKind.u8.wrap (l / 281474976710656) = x 9 := he 9 (by decide)
  have d10 : IntKind.u8.wrap (l / 1099511627776) = x 10 := he 10 (by decide)
  have d11 : IntKind.u8.wrap (l / 4294967296) = x 11 := he 11 (by decide)
  have d12 : IntKind.u8.wrap (l / 16777216) = x 12 := he 12 (by decide)
  have d13 : IntKind.u8.wrap (l / 65536) = x 13 := he 13 (by decide)
  have d14 : IntKind.u8.wrap (l / 256) = x 14 := he 14 (by decide)
  have d15 : IntKind.u8.wrap l = x 15 := by have := he 15 (by decide); simpa using this
  have hcv := back16 x t hb hz (w.alloc (.cells #[.int .i64 h, .int .u64 l] 24)) 5 (w.heap.size + 1) (by simp)
  have hmk : ∀ w : World, (Instr.makeSlice 92 (.int .i64 16) (.int .i64 16)).run Try.prog w = .ok (.slice (some ⟨w.heap.size, 0, none⟩) 16 16) (w.alloc (.cells #[.int .u8 0, .int .u8 0, .int .u8 0, .int .u8 0, .int .u8 0, .int .u8 0, .int .u8 0, .int .u8 0, .int .u8 0, .int .u8 0, .int .u8 0, .int .u8 0, .int .u8 0, .int .u8 0, .int .u8 0, .int .u8 0] 5)) := fun _ => by kernel_rfl
  clear hd he hx hb hz ht
  go_enter Try.func40, Try.ntmps40
  go_wp2
  go_rounds 9
  go_ret
  exact ⟨rfl, by (repeat (first | exact Below.refl _ _ | assumption | refine below_add ?_ _ | (refine below_on ?_ (by assumption)) | refine Below.drew ?_ | refine below_drewN ?_ _ | (refine Below.setCell ?_ (by simp; try omega) _) | (refine below_new ?_ _ (by simp; try omega)) | (refine below_next ?_ (by assumption) (by simp; try omega))))⟩

/-- What the loop of the document's Bytes has done. -/
structure BytesRel (w wr : World) (b : Nat) (x : Nat → Int) (k : Nat) (v : Value) (xs : List UInt8) : Prop where
  arr : Arr wr b x
  own : wr.ownsRow (b + 1) 5 1 v xs.length (xs.map wbcellv)
  len : xs.length = k
  all : ∀ i, i < k → ((xs.getD i 0).toNat : Int) = x i
  below : Below w.heap.size w wr
  room : w.heap.size ≤ b

theorem BytesRel.next {w wr w' : World} {b k : Nat} {x : Nat → Int} {v v' : Value} {xs : List UInt8} {c : UInt8} (R : BytesRel w wr b x k v xs) (hc : (c.toNat : Int) = x k) (o : Obj)
    (hown : w'.ownsRow (b + 1) 5 1 v' (xs.length + 1) (xs.map wbcellv ++ [wbcellv c])) (hg : (wr.alloc o).grownBy w' v.ownBlock) : BytesRel w w' b x (k + 1) v' (xs ++ [c]) := by
  have hr := R.arr.room
  have hne : ∀ j, v.ownBlock = some j → b + 1 ≤ j := fun j hj => (R.own.lt j hj).1
  have hB : Below (b + 1) wr w' := ((Below.refl _ _).alloc (by omega) _).grown hg (by simp; omega) hne
  refine ⟨R.arr.under hB (Nat.lt_succ_self b), by simpa using hown, by simp [R.len], fun i hi => ?_, R.below.trans (hB.mono (by have := R.room; omega)), R.room⟩
  have hl := R.len
  by_cases e : i = k
  · subst e
    rw [List.getD_eq_getElem?_getD, List.getElem?_append_right (by omega), hl]; simpa using hc
  · have := R.all i (by omega)
    rw [List.getD_eq_getElem?_getD] at this ⊢
    rwa [List.getElem?_append_left (by omega)]
theorem ownsRow_bytes {w : World} {b n : Nat} {v : Value} {xs : List UInt8} (own : w.ownsRow b 5 1 v xs.length (xs.map wbcellv)) (hn : xs.length = n) (h0 : 0 < n) : ∃ g cp, v = .slice (some ⟨g, 0, none⟩) n cp ∧ BytesFn w g n (fun p => xs.getD p 0) := by
  subst hn
  have hown := own
  obtain ⟨hl, h2⟩ := hown
  rcases h2 with ⟨_, h0'⟩ | ⟨g, cap, cur, hv, hg, hh, hn, hm, hs, ht⟩
  · omega
  · subst hv
    refine ⟨g, cap, rfl, fun p hp => ?_⟩
    have e1 := World.ownsRow.cellAt own p (by omega)
    have e2 := World.ownsRow.frozenAt own p
    refine ⟨?_, e2⟩
    rw [e1]
    simp [hp, wbcellv]
theorem wideB_is {h l : Int} {xs : List UInt8} (ha : ∀ i, i < 16 → ((xs.getD i 0).toNat : Int) = dg h l i) : (⟨((List.range 16).map fun p => xs.getD p 0).toArray⟩ : ByteArray) = wideB h l := by
  unfold wideB
  congr 2
  apply List.map_congr_left
  intro i hi
  have hi' : i < 16 := by simpa using hi
  have h1 := ha i hi'
  apply UInt8.toNat_inj.1
  have h2 := dg_byte h l i
  omega

set_option maxHeartbeats 2000000 in
theorem refBytes_is (h l : Int) (t : ByteArray) (w : World) (hl0 : 0 ≤ l) (hl1 : l ≤ 18446744073709551615) (ht : Hid (wideB h l = t)) :
    Calls Try.prog 44 #[.agg #[.int .i64 (h), .int .u64 (l)]] w fun e w' => e = .returned (.string t) ∧ Below w.heap.size w w' := by
  obtain ⟨i0, hi, hz0, hz1, hz2⟩ := info_parts winfoB
  obtain ⟨x, hx⟩ : ∃ x, dg h l = x := ⟨_, rfl⟩
  have k1 := fun w => digits_any h l x w hl0 hl1 hx
  have hr : Hid (∀ i, 0 ≤ x i ∧ x i ≤ 255) := fun i => by rw [← hx]; exact dg_range h l i
  have HX := Lib.hid hx
  clear hx
  go_enter Try.func44, Try.ntmps44
  go_wp2_with (first
    | (go_at_call 67; (with_reducible refine (k1 _).mono ?_); rintro e wz ⟨rfl, hbz⟩)
    | (refine wwpList_new_arr (f := x) rfl _ _ rfl rfl rfl ?_; intro wy hAy hby))
  have hbel : Below w.heap.size w wy := by (repeat (first | exact Below.refl _ _ | assumption | refine below_add ?_ _ | (refine below_on ?_ (by assumption)) | refine Below.drew ?_ | refine below_drewN ?_ _ | (refine Below.setCell ?_ (by simp; try omega) _) | (refine below_new ?_ _ (by simp; try omega)) | (refine below_next ?_ (by assumption) (by simp; try omega))))
  have hrm := hbz.size
  simp at hrm
  have HR0 : Hid (BytesRel w wy wz.heap.size x 0 (.slice none 0 0) []) := ⟨hAy, World.ownsRow_nil _ _ _ _, rfl, fun i hi => absurd hi (by omega), hbel, by omega⟩
  clear hAy hbel k1
  go_loopw [4, 5] (fun v i wr => ∃ (k : Nat) (xs : List UInt8), k ≤ 16 ∧ i = .int .i64 (k : Int) ∧ BytesRel w wr wz.heap.size x k v xs) (fun _ i _ => 16 - (intOf i).toNat)
  case atStart => exact ⟨0, [], by decide, rfl, HR0.out⟩
  case round =>
    obtain ⟨k, xs, hk, rfl, R⟩ := hrel
    by_cases hlt : k < 16
    · have c1 := (R.arr k hlt).1
      have r1 := hr.out k
      obtain ⟨u, hu⟩ : ∃ u, x k = u := ⟨_, rfl⟩
      rw [hu] at c1 r1
      obtain ⟨c, hc⟩ : ∃ c : UInt8, (c.toNat : Int) = u := ⟨UInt8.ofNat u.toNat, by rw [UInt8.toNat_ofNat', Nat.mod_eq_of_lt (by omega)]; omega⟩
      have HC : Hid ((c.toNat : Int) = x k) := by show _ = _; rw [hc, hu]
      rw [← hc] at c1 r1
      have hown := R.own
      have hlen : xs.length ≤ 16 := by have := R.len; omega
      have hroom := R.arr.room
      have hk1 : (k : Int) < 16 := by omega
      have hk2 : (0 : Int) ≤ (k : Int) := by omega
      have HR := Lib.hid R
      clear R hu hc HR0
      go_wp2_with (first
        | (at_builtin; refine wpList_append_own _ rfl _ _ 92 rfl (wz.heap.size + 1) 5 i0 (.int .u8 0) 1 1 Try.underlying92 hi hz0 hz1 hz2 rfl (by decide) _ _ _ rfl (hown.alloc _) ⟨wr.heap.size, 0, none⟩ 1 1 [wbcellv c] rfl rfl ?c1 ?c2 ?c3 ?c4 ?c5 ?_))
      case c1 =>
        intro j u hj
        match j, hj with
        | 0, hj => simp at hj; subst hj; simp [Addr.add, wbcellv]
      case c2 => intro u hu; simp at hu; subst hu; rfl
      case c3 => unfold maxLen; omega
      case c4 => omega
      case c5 => simp; omega
      intro v' w3 hown3 hgrow _
      have N := Lib.hid (HR.out.next HC.out _ hown3 hgrow)
      clear hown3 hgrow hown
      go_wp2
      go_roundw
      case rel => exact ⟨k + 1, _, by omega, by go_num, N.out⟩
      case measure => simp [intOf]; omega
    · have e : k = 16 := by omega
      subst e
      obtain ⟨g, cp, rfl, hF⟩ := ownsRow_bytes R.own R.len (by decide)
      have hcv := back_run hF cp
      rw [wideB_is (fun i hi => by rw [R.all i hi, ← HX.out]), ht.out] at hcv
      have hb1 := R.below
      clear R hF HR0
      go_wp2
      go_ret
      exact ⟨rfl, by (repeat (first | exact Below.refl _ _ | assumption | refine below_add ?_ _ | (refine below_on ?_ (by assumption)) | refine Below.drew ?_ | refine below_drewN ?_ _ | (refine Below.setCell ?_ (by simp; try omega) _) | (refine below_new ?_ _ (by simp; try omega)) | (refine below_next ?_ (by assumption) (by simp; try omega))))⟩
end Go.Proofs.Ytipjhlabcbkgjaa

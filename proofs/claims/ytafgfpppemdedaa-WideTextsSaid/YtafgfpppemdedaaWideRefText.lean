/- The contract of the document's Text: the decimal text of the number. -/
import Derived.Test.YtafgfpppemdedaaWideRefTextMath
import Derived.Test.YtafgfpppemdedaaWideRefCmp
import Derived.Test.YtafgfpppemdedaaWideText
namespace Go.Proofs.Ytafgfpppemdedaa
open Go.RowKit Go.Proofs.Ytafgfpppemdedaa.Wd

theorem one_byte (c : UInt8) (w : World) : (convert 54 9 (.slice (some ⟨w.heap.size, 0, none⟩) 1 1)).run Try.prog (w.alloc (.cells #[.int .u8 (c.toNat : Int)] 5)) = .ok (.string ⟨[c].toArray⟩) (w.alloc (.cells #[.int .u8 (c.toNat : Int)] 5)) := by
  refine run_convert_bytes_back (P := Try.prog) _ 54 9 5 ⟨w.heap.size, 0, none⟩ 1 [c] Try.underlying54 Try.underlying5 Try.underlying9 fun j hj => ?_
  obtain rfl : j = 0 := by simpa using hj
  simp [Addr.add]
theorem str_app (l m : List UInt8) : (⟨l.toArray⟩ : ByteArray) ++ (⟨m.toArray⟩ : ByteArray) = ⟨(l ++ m).toArray⟩ := by
  apply ByteArray.ext
  rw [ByteArray.data_append]
  simp
theorem str_size (l : List UInt8) : (⟨l.toArray⟩ : ByteArray).size = l.length := by simp [ByteArray.size]
def lenOf : Value → Nat
  | .string t => t.size
  | _ => 0

/-- What stands at the head of each round: M is left of N, acc are the last digits. -/
structure Left (w wr : World) (b : Nat) (f : Nat → Int) (N M : Nat) (acc : List UInt8) : Prop where
  arr : Arr wr b f
  dig : ∀ i, i < 16 → 0 ≤ f i ∧ f i ≤ 255
  val : horn f 0 16 = (M : Int)
  text : dec N = dec M ++ acc
  below : Below w.heap.size w wr
  room : w.heap.size ≤ b
  small : M < 10000000000000000000000000000000000000000
theorem Left.len {w wr : World} {b N M : Nat} {f : Nat → Int} {acc : List UInt8} (R : Left w wr b f N M acc) (hN : N < 1000000000000000000000000000000000000000) : acc.length ≤ 38 := by
  have h1 := dec_length N hN
  have h2 := List.length_pos_iff.2 (dec_ne M R.small)
  rw [R.text, List.length_append] at h1
  omega
/-- What the division has done: k digits. -/
structure Divd (w wr : World) (b : Nat) (f g : Nat → Int) (k : Nat) (r : Int) : Prop where
  arr : Arr wr b g
  quo : horn f 0 k = horn g 0 k * 10 + r
  r0 : 0 ≤ r
  r1 : r ≤ 9
  old : ∀ i, k ≤ i → g i = f i
  dig : ∀ i, i < 16 → 0 ≤ g i ∧ g i ≤ 255
  below : Below w.heap.size w wr
  room : w.heap.size ≤ b
theorem Divd.next {w wr : World} {b k : Nat} {f g : Nat → Int} {r : Int} (R : Divd w wr b f g k r) (hk : k < 16) :
    Divd w (wr.setCell ⟨b, k, none⟩ (.int .i64 ((r * 256 + f k) / 10))) b f (updI g k ((r * 256 + f k) / 10)) (k + 1) ((r * 256 + f k) % 10) ∧ sumv (updI g k ((r * 256 + f k) / 10)) (k + 1) = sumv g k + (r * 256 + f k) / 10 := by
  have hd := R.dig k hk
  rw [R.old k (Nat.le_refl _)] at hd
  have h0 := R.r0
  have h1 := R.r1
  have hu : ∀ i, i < k → updI g k ((r * 256 + f k) / 10) i = g i := fun i hi => by unfold updI; rw [if_neg (by omega)]
  have hk' : updI g k ((r * 256 + f k) / 10) k = (r * 256 + f k) / 10 := by unfold updI; rw [if_pos rfl]
  refine ⟨⟨R.arr.stored k hk _, div_step R.quo rfl hk' hu, by omega, by omega, fun i hi => ?_, fun i hi => ?_, R.below.setCell R.room _, R.room⟩, ?_⟩
  · unfold updI; rw [if_neg (by omega)]; exact R.old i (by omega)
  · unfold updI
    split
    · omega
    · exact R.dig i hi
  · rw [sumv, hk', sumv_congr _ g k hu]

set_option maxHeartbeats 8000000 in
theorem refText_any (h l a : Int) (w : World) (A : Rep h l a) :
    Calls Try.prog 26 #[.agg #[.int .i64 (h), .int .u64 (l)]] w fun e w' => e = .returned (.string ⟨(textOf a).toArray⟩) ∧ Below w.heap.size w w' := by
  have hN : a.natAbs < 1000000000000000000000000000000000000000 := by have := inW_abs A.inW; omega
  obtain ⟨N, hNN⟩ : ∃ N, a.natAbs = N := ⟨_, rfl⟩
  have hP := WideAt.new w h l 24
  have hroom0 : w.heap.size < (w.alloc (.cells #[.int .i64 h, .int .u64 l] 24)).heap.size := by simp
  by_cases ha : a < 0
  · obtain ⟨h2, l2, A2⟩ := rep_sm (-a)
    obtain ⟨x, hx⟩ : ∃ x, dg h2 l2 = x := ⟨_, rfl⟩
    have hval : horn x 0 16 = (N : Int) := by
      rw [horn_tail, ← hx, tailv_exact A2]
      obtain ⟨i1, i2⟩ := A.inW
      unfold sm; omega
    have hx8 : ∀ i, i < 16 → 0 ≤ x i ∧ x i ≤ 255 := fun i _ => by rw [← hx]; exact dg_range h2 l2 i
    have k1 := fun w => refBelow_any h l a w A true (Lib.hid (by simp; exact ha))
    have k2 := fun w => refNeg_any h l h2 l2 a _ w A A2 (sm_cong _)
    have k3 := fun w => digits_any h2 l2 x w A2.l0 A2.l1 hx
    have HT := Lib.hid (show textOf a = 45 :: dec N by unfold textOf; rw [if_pos ha, hNN])
    have HV := Lib.hid hval
    have HX := Lib.hid hx8
    rw [hNN] at hN
    clear hx hval hx8 A2 A ha hNN
    go_enter Try.func26, Try.ntmps26
    go_wp2_with (first
      | (go_at_call 45; (with_reducible refine (k1 _).mono ?_); rintro e w1 ⟨rfl, hb1⟩; have hP1 := hP.below hb1; have p0 := hP1.c0; have p1 := hP1.c1; have p2 := hP1.f0; have p3 := hP1.f1; have hr1 := hb1.size)
      | (go_at_call 17; (with_reducible refine (k2 _).mono ?_); rintro e w2 ⟨rfl, hb2⟩; have hP2 := hP1.below hb2; have q0 := hP2.c0; have q1 := hP2.c1; have q2 := hP2.f0; have q3 := hP2.f1; have hr2 := hb2.size)
      | (go_at_call 33; (with_reducible refine (k3 _).mono ?_); rintro e wz ⟨rfl, hbz⟩)
      | (refine wpList_new_arr (f := x) rfl _ _ rfl rfl rfl ?_; intro wy hAy hby))
    have hroomz : w.heap.size ≤ wz.heap.size := by
      have g1 := hb1.size
      have g2 := hbz.size
      simp at g1 g2
      omega
    have hbel : Below w.heap.size w wy := by (repeat (first | exact Below.refl _ _ | assumption | refine below_add ?_ _ | (refine below_on ?_ (by assumption)) | refine Below.drew ?_ | refine below_drewN ?_ _ | (refine Below.setCell ?_ (by simp; try omega) _) | (refine below_new ?_ _ (by simp; try omega)) | (refine below_next ?_ (by assumption) (by simp; try omega))))
    have HL0 : Hid (Left w wy wz.heap.size x N N []) := ⟨hAy, HX.out, HV.out, by simp, hbel, hroomz, by omega⟩
    generalize wz.heap.size = b at HL0 ⊢
    clear hb1 hb2 hbz hP hP1 hP2 p0 p1 p2 p3 q0 q1 q2 q3 hr1 hr2 hAy hby hbel HX HV k1 k2 k3 hroom0 hroomz
    go_loopw [5] (fun v wr => ∃ (M : Nat) (f : Nat → Int) (acc : List UInt8), v = .string ⟨acc.toArray⟩ ∧ Left w wr b f N M acc) (fun v _ => 60 - lenOf v)
    case atStart => exact ⟨N, x, [], rfl, HL0.out⟩
    case round =>
      obtain ⟨M, f, acc, rfl, R⟩ := hrel
      clear HL0
      have hlen := R.len hN
      have HR := Lib.hid R
      have hD0 : Hid (Divd w wr b f f 0 0) := ⟨R.arr, by simp [horn], by decide, by decide, fun _ _ => rfl, R.dig, R.below, R.room⟩
      clear R
      go_wp2_with fail
      go_loopw [6, 7, 8] (fun p q i wr => ∃ (k : Nat) (g : Nat → Int) (r : Int), k ≤ 16 ∧ i = .int .i64 (k : Int) ∧ p = .int .i64 r ∧ q = .int .i64 (sumv g k) ∧ Divd w wr b f g k r) (fun _ _ i _ => 16 - (intOf i).toNat)
      case atStart => exact ⟨0, f, 0, by decide, rfl, rfl, rfl, hD0.out⟩
      case round =>
        obtain ⟨k, g, r, hk, rfl, rfl, rfl, D⟩ := hrel
        clear hD0
        by_cases hlt : k < 16
        · have c1 := (D.arr k hlt).1
          have c2 := (D.arr k hlt).2
          rw [D.old k (Nat.le_refl _)] at c1
          have hfk := HR.out.dig k hlt
          obtain ⟨s0, s1⟩ := sumv_bound g k fun i hi => D.dig i (by omega)
          have N1 := Lib.hid (D.next hlt)
          have r0 := D.r0
          have r1 := D.r1
          obtain ⟨u, hu⟩ : ∃ u, f k = u := ⟨_, rfl⟩
          obtain ⟨z, hz⟩ : ∃ z, sumv g k = z := ⟨_, rfl⟩
          rw [hu] at c1 hfk N1
          rw [hz] at s0 s1 N1 ⊢
          obtain ⟨f0, f1⟩ := hfk
          have hk1 : (k : Int) < 16 := by omega
          clear D hu hz
          go_wp2
          go_roundw
          case rel => exact ⟨k + 1, _, _, by omega, by go_num, rfl, by rw [N1.out.2], N1.out.1⟩
          case measure => simp [intOf]; omega
        · obtain rfl : k = 16 := by omega
          have hq := D.quo
          rw [HR.out.val] at hq
          have r0 := D.r0
          have r1 := D.r1
          have hsz := sumv_zero g 16 D.dig
          have hsb := sumv_bound g 16 D.dig
          obtain ⟨c, hc⟩ : ∃ c, c = UInt8.ofNat (48 + M % 10) := ⟨_, rfl⟩
          have he : (48 : Int) + r = (c.toNat : Int) := by rw [hc, digit_toNat _ (Nat.mod_lt _ (by decide))]; omega
          have hq2 : horn g 0 16 = ((M / 10 : Nat) : Int) := by omega
          have hwc := one_byte c wr
          obtain ⟨t1, ht1⟩ : ∃ t : ByteArray, (⟨[c].toArray⟩ : ByteArray) = t := ⟨_, rfl⟩
          obtain ⟨t0, ht0⟩ : ∃ t : ByteArray, (⟨acc.toArray⟩ : ByteArray) = t := ⟨_, rfl⟩
          have z0 : t0.size ≤ 38 := by rw [← ht0, str_size]; exact hlen
          have z1 : t1.size = 1 := by rw [← ht1, str_size]; rfl
          have z2 : t1.size + t0.size ≤ 9223372036854775807 := by omega
          have hcb := c.toNat_lt
          have hcat : t1 ++ t0 = (⟨(c :: acc).toArray⟩ : ByteArray) := by rw [← ht1, ← ht0, str_app]; rfl
          obtain ⟨t2, ht2⟩ : ∃ t : ByteArray, (⟨(c :: acc).toArray⟩ : ByteArray) = t := ⟨_, rfl⟩
          rw [ht2] at hcat
          rw [ht1] at hwc
          rw [ht0]
          have HC := Lib.hid hcat
          have HE := Lib.hid he
          have HT2 := Lib.hid ht2
          have HT0 := Lib.hid ht0
          have hwr : w.heap.size ≤ wr.heap.size := D.below.size
          have hB2 := D.below.alloc hwr (.cells #[.int .u8 (c.toNat : Int)] 5)
          have hA2 : Arr (wr.alloc (.cells #[.int .u8 (c.toNat : Int)] 5)) b g := D.arr.alloc _
          have hdig := D.dig
          have hrm := D.room
          by_cases hM : M < 10
          · have hz0 : sumv g 16 = 0 := hsz.2 (by rw [hq2]; omega)
            have HF := Lib.hid (show dec N = c :: acc by rw [HR.out.text, dec_small hM, hc, Nat.mod_eq_of_lt hM]; rfl)
            rw [hz0]
            have hlen2 : t2.size = t0.size + 1 := by rw [← HC.out]; simp; omega
            clear hq hsz hsb hc hq2 ht1 ht2 ht0 hA2 hdig D hlen hM hz0 HR HE HC
            have z3 : ({ data := #[45] } : ByteArray).size + t2.size ≤ 9223372036854775807 := by
              have : ({ data := #[45] } : ByteArray).size = 1 := rfl
              omega
            go_wp2
            go_ret
            exact ⟨by rw [HT.out, HF.out, show (⟨(45 :: (c :: acc)).toArray⟩ : ByteArray) = (⟨#[45]⟩ : ByteArray) ++ (⟨(c :: acc).toArray⟩ : ByteArray) from (str_app [45] (c :: acc)).symm, HT2.out]; rfl, hB2⟩
          · have hne : ¬ sumv g 16 = 0 := fun e => by have := hsz.1 e; omega
            have HF := Lib.hid (show dec N = dec (M / 10) ++ (c :: acc) by rw [HR.out.text, dec_great hM HR.out.small, ← hc]; simp)
            have hlen2 : t2.size = t0.size + 1 := by rw [← HC.out]; simp; omega
            have HQ := Lib.hid hq2
            have hsm : M / 10 < 10000000000000000000000000000000000000000 := by have := HR.out.small; omega
            obtain ⟨z, hz⟩ : ∃ z, sumv g 16 = z := ⟨_, rfl⟩
            rw [hz] at hne hsb ⊢
            have hzb : (z == 0) = false := by simp; exact hne
            clear hq hsz hsb hc hq2 ht1 ht2 ht0 D hlen hM hne hz HR HE HC
            go_wp2
            go_roundw
            case rel => exact ⟨M / 10, g, c :: acc, by rw [HT2.out], hA2, hdig, HQ.out, HF.out, hB2, hrm, hsm⟩
            case measure => rw [show (⟨acc.toArray⟩ : ByteArray) = t0 from HT0.out]; simp [lenOf]; omega
  · obtain ⟨x, hx⟩ : ∃ x, dg h l = x := ⟨_, rfl⟩
    have hval : horn x 0 16 = (N : Int) := by
      rw [horn_tail, ← hx, tailv_exact A]
      obtain ⟨i1, i2⟩ := A.inW
      omega
    have hx8 : ∀ i, i < 16 → 0 ≤ x i ∧ x i ≤ 255 := fun i _ => by rw [← hx]; exact dg_range h l i
    have k1 := fun w => refBelow_any h l a w A false (Lib.hid (by simp; omega))
    have k3 := fun w => digits_any h l x w A.l0 A.l1 hx
    have HT := Lib.hid (show textOf a = dec N by unfold textOf; rw [if_neg ha, hNN])
    have HV := Lib.hid hval
    have HX := Lib.hid hx8
    rw [hNN] at hN
    clear hx hval hx8 A ha hNN
    go_enter Try.func26, Try.ntmps26
    go_wp2_with (first
      | (go_at_call 45; (with_reducible refine (k1 _).mono ?_); rintro e w1 ⟨rfl, hb1⟩; have hP1 := hP.below hb1; have p0 := hP1.c0; have p1 := hP1.c1; have p2 := hP1.f0; have p3 := hP1.f1; have hr1 := hb1.size)
      | (go_at_call 33; (with_reducible refine (k3 _).mono ?_); rintro e wz ⟨rfl, hbz⟩)
      | (refine wpList_new_arr (f := x) rfl _ _ rfl rfl rfl ?_; intro wy hAy hby))
    have hroomz : w.heap.size ≤ wz.heap.size := by
      have g1 := hb1.size
      have g2 := hbz.size
      simp at g1 g2
      omega
    have hbel : Below w.heap.size w wy := by (repeat (first | exact Below.refl _ _ | assumption | refine below_add ?_ _ | (refine below_on ?_ (by assumption)) | refine Below.drew ?_ | refine below_drewN ?_ _ | (refine Below.setCell ?_ (by simp; try omega) _) | (refine below_new ?_ _ (by simp; try omega)) | (refine below_next ?_ (by assumption) (by simp; try omega))))
    have HL0 : Hid (Left w wy wz.heap.size x N N []) := ⟨hAy, HX.out, HV.out, by simp, hbel, hroomz, by omega⟩
    generalize wz.heap.size = b at HL0 ⊢
    clear hb1 hbz hP hP1 p0 p1 p2 p3 hr1 hAy hby hbel HX HV k1 k3 hroom0 hroomz
    go_loopw [5] (fun v wr => ∃ (M : Nat) (f : Nat → Int) (acc : List UInt8), v = .string ⟨acc.toArray⟩ ∧ Left w wr b f N M acc) (fun v _ => 60 - lenOf v)
    case atStart => exact ⟨N, x, [], rfl, HL0.out⟩
    case round =>
      obtain ⟨M, f, acc, rfl, R⟩ := hrel
      clear HL0
      have hlen := R.len hN
      have HR := Lib.hid R
      have hD0 : Hid (Divd w wr b f f 0 0) := ⟨R.arr, by simp [horn], by decide, by decide, fun _ _ => rfl, R.dig, R.below, R.room⟩
      clear R
      go_wp2_with fail
      go_loopw [6, 7, 8] (fun p q i wr => ∃ (k : Nat) (g : Nat → Int) (r : Int), k ≤ 16 ∧ i = .int .i64 (k : Int) ∧ p = .int .i64 r ∧ q = .int .i64 (sumv g k) ∧ Divd w wr b f g k r) (fun _ _ i _ => 16 - (intOf i).toNat)
      case atStart => exact ⟨0, f, 0, by decide, rfl, rfl, rfl, hD0.out⟩
      case round =>
        obtain ⟨k, g, r, hk, rfl, rfl, rfl, D⟩ := hrel
        clear hD0
        by_cases hlt : k < 16
        · have c1 := (D.arr k hlt).1
          have c2 := (D.arr k hlt).2
          rw [D.old k (Nat.le_refl _)] at c1
          have hfk := HR.out.dig k hlt
          obtain ⟨s0, s1⟩ := sumv_bound g k fun i hi => D.dig i (by omega)
          have N1 := Lib.hid (D.next hlt)
          have r0 := D.r0
          have r1 := D.r1
          obtain ⟨u, hu⟩ : ∃ u, f k = u := ⟨_, rfl⟩
          obtain ⟨z, hz⟩ : ∃ z, sumv g k = z := ⟨_, rfl⟩
          rw [hu] at c1 hfk N1
          rw [hz] at s0 s1 N1 ⊢
          obtain ⟨f0, f1⟩ := hfk
          have hk1 : (k : Int) < 16 := by omega
          clear D hu hz
          go_wp2
          go_roundw
          case rel => exact ⟨k + 1, _, _, by omega, by go_num, rfl, by rw [N1.out.2], N1.out.1⟩
          case measure => simp [intOf]; omega
        · obtain rfl : k = 16 := by omega
          have hq := D.quo
          rw [HR.out.val] at hq
          have r0 := D.r0
          have r1 := D.r1
          have hsz := sumv_zero g 16 D.dig
          have hsb := sumv_bound g 16 D.dig
          obtain ⟨c, hc⟩ : ∃ c, c = UInt8.ofNat (48 + M % 10) := ⟨_, rfl⟩
          have he : (48 : Int) + r = (c.toNat : Int) := by rw [hc, digit_toNat _ (Nat.mod_lt _ (by decide))]; omega
          have hq2 : horn g 0 16 = ((M / 10 : Nat) : Int) := by omega
          have hwc := one_byte c wr
          obtain ⟨t1, ht1⟩ : ∃ t : ByteArray, (⟨[c].toArray⟩ : ByteArray) = t := ⟨_, rfl⟩
          obtain ⟨t0, ht0⟩ : ∃ t : ByteArray, (⟨acc.toArray⟩ : ByteArray) = t := ⟨_, rfl⟩
          have z0 : t0.size ≤ 38 := by rw [← ht0, str_size]; exact hlen
          have z1 : t1.size = 1 := by rw [← ht1, str_size]; rfl
          have z2 : t1.size + t0.size ≤ 9223372036854775807 := by omega
          have hcb := c.toNat_lt
          have hcat : t1 ++ t0 = (⟨(c :: acc).toArray⟩ : ByteArray) := by rw [← ht1, ← ht0, str_app]; rfl
          obtain ⟨t2, ht2⟩ : ∃ t : ByteArray, (⟨(c :: acc).toArray⟩ : ByteArray) = t := ⟨_, rfl⟩
          rw [ht2] at hcat
          rw [ht1] at hwc
          rw [ht0]
          have HC := Lib.hid hcat
          have HE := Lib.hid he
          have HT2 := Lib.hid ht2
          have HT0 := Lib.hid ht0
          have hwr : w.heap.size ≤ wr.heap.size := D.below.size
          have hB2 := D.below.alloc hwr (.cells #[.int .u8 (c.toNat : Int)] 5)
          have hA2 : Arr (wr.alloc (.cells #[.int .u8 (c.toNat : Int)] 5)) b g := D.arr.alloc _
          have hdig := D.dig
          have hrm := D.room
          by_cases hM : M < 10
          · have hz0 : sumv g 16 = 0 := hsz.2 (by rw [hq2]; omega)
            have HF := Lib.hid (show dec N = c :: acc by rw [HR.out.text, dec_small hM, hc, Nat.mod_eq_of_lt hM]; rfl)
            rw [hz0]
            have hlen2 : t2.size = t0.size + 1 := by rw [← HC.out]; simp; omega
            clear hq hsz hsb hc hq2 ht1 ht2 ht0 hA2 hdig D hlen hM hz0 HR HE HC
            go_wp2
            go_ret
            exact ⟨by rw [HT.out, HF.out, HT2.out]; rfl, hB2⟩
          · have hne : ¬ sumv g 16 = 0 := fun e => by have := hsz.1 e; omega
            have HF := Lib.hid (show dec N = dec (M / 10) ++ (c :: acc) by rw [HR.out.text, dec_great hM HR.out.small, ← hc]; simp)
            have hlen2 : t2.size = t0.size + 1 := by rw [← HC.out]; simp; omega
            have HQ := Lib.hid hq2
            have hsm : M / 10 < 10000000000000000000000000000000000000000 := by have := HR.out.small; omega
            obtain ⟨z, hz⟩ : ∃ z, sumv g 16 = z := ⟨_, rfl⟩
            rw [hz] at hne hsb ⊢
            have hzb : (z == 0) = false := by simp; exact hne
            clear hq hsz hsb hc hq2 ht1 ht2 ht0 D hlen hM hne hz HR HE HC
            go_wp2
            go_roundw
            case rel => exact ⟨M / 10, g, c :: acc, by rw [HT2.out], hA2, hdig, HQ.out, HF.out, hB2, hrm, hsm⟩
            case measure => rw [show (⟨acc.toArray⟩ : ByteArray) = t0 from HT0.out]; simp [lenOf]; omega
end Go.Proofs.Ytafgfpppemdedaa

/- The chapter's examples, as the laws of layer 2 ask them first ('awake'): true. -/
import Derived.Test.YtafgfpppemdedaaWideParse
namespace Go.Proofs.Ytafgfpppemdedaa
open Go.RowKit Go.Proofs.Ytafgfpppemdedaa.Wd

abbrev sNeg0 : ByteArray := { data := #[45, 48] }
abbrev s01 : ByteArray := { data := #[48, 49] }
abbrev sBig : ByteArray := { data := #[49, 55, 48, 49, 52, 49, 49, 56, 51, 52, 54, 48, 52, 54, 57, 50, 51, 49, 55, 51, 49, 54, 56, 55, 51, 48, 51, 55, 49, 53, 56, 56, 52, 49, 48, 53, 55, 50, 56] }
abbrev s0 : ByteArray := { data := #[48] }
abbrev sLeast : ByteArray := { data := #[45, 49, 55, 48, 49, 52, 49, 49, 56, 51, 52, 54, 48, 52, 54, 57, 50, 51, 49, 55, 51, 49, 54, 56, 55, 51, 48, 51, 55, 49, 53, 56, 56, 52, 49, 48, 53, 55, 50, 56] }

theorem parse_form {s : ByteArray} (h : numB s.data.toList = false) : Hid (ParseIs s 0 0 10) := by
  show ParseIs _ _ _ _
  unfold ParseIs; rw [if_pos h]; exact ⟨rfl, rfl, rfl⟩
theorem parse_neg0 : Hid (ParseIs sNeg0 0 0 10) := parse_form (by decide)
theorem parse_01 : Hid (ParseIs s01 0 0 10) := parse_form (by decide)
theorem body_big : body sBig = sBig := by unfold body; rw [if_neg (by decide)]
theorem digits_big : digitsOf sBig = sm 170141183460469231731687303715884105728 := by
  unfold digitsOf
  rw [body_big]
  have : valD sBig.data.toList = 170141183460469231731687303715884105728 := by decide +kernel
  rw [this]; rfl
theorem parse_big : Hid (ParseIs sBig 0 0 11) := by
  show ParseIs _ _ _ _
  unfold ParseIs
  have hn : numB sBig.data.toList = true := by decide
  have hp : parsed sBig = digitsOf sBig := by unfold parsed; rw [if_neg (by decide)]
  rw [if_neg (by rw [hn]; simp), if_neg]
  · exact ⟨rfl, rfl, rfl⟩
  · intro e
    have hin : InW (parsed sBig) := by rw [hp]; exact sm_in _
    have h1 := (textOf_sign hin).2 (by rw [hp, digits_big]; unfold sm; omega)
    rw [e] at h1
    exact absurd h1 (by decide)
theorem text_zero : textOf 0 = [48] := by decide
theorem text_least : textOf (-170141183460469231731687303715884105728) = [45, 49, 55, 48, 49, 52, 49, 49, 56, 51, 52, 54, 48, 52, 54, 57, 50, 51, 49, 55, 51, 49, 54, 56, 55, 51, 48, 51, 55, 49, 53, 56, 56, 52, 49, 48, 53, 55, 50, 56] := by decide +kernel
theorem text0 (w : World) : Calls Try.prog 25 #[.agg #[.int .i64 (0), .int .u64 (0)]] w fun e w' => e = .returned (.string s0) ∧ Below w.heap.size w w' := by
  have := text_any 0 0 0 w rep_zero
  rwa [text_zero] at this
theorem rep_least : Rep (-9223372036854775808) 0 (-170141183460469231731687303715884105728) := ⟨by decide, by decide, by decide, by decide, by decide⟩
theorem textLeast (w : World) : Calls Try.prog 25 #[.agg #[.int .i64 (-9223372036854775808), .int .u64 (0)]] w fun e w' => e = .returned (.string sLeast) ∧ Below w.heap.size w w' := by
  have := text_any _ _ _ w rep_least
  rwa [text_least] at this
theorem ofMax (w : World) : Calls Try.prog 27 #[.int .i64 9223372036854775807] w fun e w' => e = .returned (.agg #[.int .i64 (0), .int .u64 (9223372036854775807)]) ∧ Below w.heap.size w w' :=
  of_any _ _ _ w (by decide) (by decide) ⟨by decide, by decide, by decide, by decide, by decide⟩
theorem ofOne (w : World) : Calls Try.prog 27 #[.int .i64 1] w fun e w' => e = .returned (.agg #[.int .i64 (0), .int .u64 (1)]) ∧ Below w.heap.size w w' :=
  of_any _ _ _ w (by decide) (by decide) ⟨by decide, by decide, by decide, by decide, by decide⟩
theorem addMax (w : World) : Calls Try.prog 14 #[.agg #[.int .i64 (0), .int .u64 (9223372036854775807)], .agg #[.int .i64 (0), .int .u64 (1)]] w fun e w' => e = .returned (.agg #[.int .i64 (0), .int .u64 (9223372036854775808)]) ∧ Below w.heap.size w w' :=
  add_any _ _ _ _ _ _ 9223372036854775807 1 9223372036854775808 w ⟨by decide, by decide, by decide, by decide, by decide⟩ ⟨by decide, by decide, by decide, by decide, by decide⟩ ⟨by decide, by decide, by decide, by decide, by decide⟩ ⟨0, by decide⟩
theorem negZero (w : World) : Calls Try.prog 16 #[.agg #[.int .i64 (0), .int .u64 (0)]] w fun e w' => e = .returned (.agg #[.int .i64 (0), .int .u64 (0)]) ∧ Below w.heap.size w w' :=
  neg_any _ _ _ _ 0 0 w rep_zero rep_zero ⟨0, by decide⟩

theorem below_add {w w1 : World} (h : Below w.heap.size w w1) (o : Obj) : Below w.heap.size w (w1.alloc o) := h.alloc h.size o
theorem WideAt.alloc {w : World} {b : Nat} {h l : Int} (k : WideAt w b h l) (o : Obj) : WideAt (w.alloc o) b h l := by
  have hr := k.room
  obtain ⟨h1, h2, h3, h4⟩ := k
  exact ⟨by simp [go_sem, hr, h1], by simp [go_sem, hr, h2], by simp [go_sem, hr, h3], by simp [go_sem, hr, h4]⟩
theorem WideAt.new (w : World) (h l : Int) (T : TypeId) : WideAt (w.alloc (.cells #[.int .i64 h, .int .u64 l] T)) w.heap.size h l :=
  ⟨by simp [go_sem], by simp [go_sem], by simp [go_sem], by simp [go_sem]⟩

set_option maxHeartbeats 1000000 in
theorem awake_any (w : World) :
    Calls Try.prog 9 #[] w fun e w' => e = .returned (.bool true) ∧ Below w.heap.size w w' := by
  go_enter Try.func9, Try.ntmps9
  go_wp2_with (first
    | (go_at_call 27; (with_reducible refine (ofMax _).mono ?_); rintro e w1 ⟨rfl, hb1⟩)
    | (go_at_call 27; (with_reducible refine (ofOne _).mono ?_); rintro e w2 ⟨rfl, hb2⟩)
    | (go_at_call 14; (with_reducible refine (addMax _).mono ?_); rintro e w3 ⟨rfl, hb3⟩)
    | (go_at_call 23; (with_reducible refine (parse_is sNeg0 _ _ _ _ (by decide) parse_neg0).mono ?_); rintro e w4 ⟨rfl, hb4⟩; have hA4 := (WideAt.new w3 0 9223372036854775808 24).below hb4)
    | (go_at_call 23; (with_reducible refine (parse_is s01 _ _ _ _ (by decide) parse_01).mono ?_); rintro e w5 ⟨rfl, hb5⟩; have hA5 := (hA4.alloc _).below hb5)
    | (go_at_call 23; (with_reducible refine (parse_is sBig _ _ _ _ (by decide) parse_big).mono ?_); rintro e w6 ⟨rfl, hb6⟩; have hA6 := (hA5.alloc _).below hb6; have hr6 := hA6.room; have k60 := hA6.c0; have k61 := hA6.c1)
    | (go_at_call 16; (with_reducible refine (negZero _).mono ?_); rintro e w7 ⟨rfl, hb7⟩)
    | (go_at_call 25; (with_reducible refine (text0 _).mono ?_); rintro e w8 ⟨rfl, hb8⟩)
    | (go_at_call 25; (with_reducible refine (textLeast _).mono ?_); rintro e w9 ⟨rfl, hb9⟩))
  go_ret
  exact ⟨rfl, by (repeat (first | exact Below.refl _ _ | assumption | refine below_add ?_ _ | (refine below_on ?_ (by assumption)) | refine Below.drew ?_ | refine below_drewN ?_ _ | (refine Below.setCell ?_ (by simp; try omega) _) | (refine below_new ?_ _ (by simp; try omega)) | (refine below_next ?_ (by assumption) (by simp; try omega))))⟩
end Go.Proofs.Ytafgfpppemdedaa

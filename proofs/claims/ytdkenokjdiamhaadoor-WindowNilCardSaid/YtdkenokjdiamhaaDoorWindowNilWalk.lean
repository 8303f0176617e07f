/- The walk of law WindowNil. -/
import Derived.Test.YtdkenokjdiamhaaDoorWindowAwake
import Derived.Test.YtdkenokjdiamhaaDoorWindowHas
set_option maxRecDepth 20000
namespace Go.Proofs.YtdkenokjdiamhaaDoor
open Go.RowKit

/-- Held: the zero set, the span of 1 to 3, the widths. -/
structure NH (w : World) (v : Value) (L : List Sp) (wr : World) : Prop where
  s : SpAt wr (w.heap.size + 1) ⟨1, 3⟩
  tab : Tab wr
  set : SetAt wr w.heap.size v L
  bel : Below w.heap.size w wr
theorem NH.keep {w w1 w2 : World} {v : Value} {L : List Sp} (h : NH w v L w1) (k : Below w1.heap.size w1 w2) : NH w v L w2 := ⟨h.s.below k, h.tab.next k, h.set.later k, bel_next h.bel k⟩
theorem nil_add {T : List Sp} (h : AddOk [] ⟨1, 3⟩ T) : T = [⟨1, 3⟩] := by
  refine Canon.uniq h.canon ⟨by simp, by simp⟩ fun x => ?_
  rw [h.has x]
  have e1 : (⟨1, 3⟩ : Sp).some_ = true := by decide
  rw [e1]
  unfold inS
  simp

set_option maxHeartbeats 8000000 in
theorem windowNil.walk (t : Int) (w : World) (_ht : -9223372036854775808 ≤ t ∧ t ≤ 9223372036854775807) (hT : Tab w) :
    Calls Tryd.prog 8 #[.int .i64 t] w fun e w' => e = .returned (.bool true) ∧ Below w.heap.size w w' := by
  have hB0 := (Below.refl w.heap.size w).alloc (Nat.le_refl _) (.cells #[.slice none 0 0] 62)
  have hB1 := bel_new hB0 (.cells #[.int .i64 1, .int .i64 3] 26)
  have hH0 : NH w (.slice none 0 0) [] ((w.alloc (.cells #[.slice none 0 0] 62)).alloc (.cells #[.int .i64 1, .int .i64 3] 26)) :=
    ⟨by have := SpAt.new (w.alloc (.cells #[.slice none 0 0] 62)) ⟨1, 3⟩ 26; simpa using this, (hT.alloc _).alloc _, (SetAt.new w _).later ((Below.refl _ _).alloc (Nat.le_refl _) _), hB1⟩
  have k0 := fun w h => awake_is w h
  have ka := fun w => add_nil ⟨1, 3⟩ w
  have kt := fun w => take_nil ⟨1, 3⟩ w
  have kh := fun w => phas_nil t w
  have ks := fun w => pspans_nil w
  have kz := fun w => psize_nil w
  have ka2 := fun b v w (h : SetAt w b v []) => add_is b v [] ⟨1, 3⟩ w h ⟨List.Pairwise.nil, by simp⟩ (by simp)
  have kz2 := fun b v w h => psize_is b v [⟨1, 3⟩] w h ⟨by simp, by simp⟩
  have kh1 := fun b v w h1 h2 => phas_is b v [⟨1, 3⟩] 1 w h1 (by omega) h2 ⟨by simp, by simp⟩ (by simp) (by simp)
  have kh3 := fun b v w h1 h2 => phas_is b v [⟨1, 3⟩] 3 w h1 (by omega) h2 ⟨by simp, by simp⟩ (by simp) (by simp)
  rw [show hasD [⟨1, 3⟩] 1 = true from by decide] at kh1
  rw [show hasD [⟨1, 3⟩] 3 = false from by decide] at kh3
  rw [show sumS [⟨1, 3⟩] = 2 from by decide] at kz2
  unfold Sp.v at ka kt ka2
  have H0 := Lib.hid hH0
  clear hH0 hB0 hB1
  go_enter Tryd.func8, Tryd.ntmps8
  go_wp2_with (first
    | (go_at_call 10; (with_reducible refine (k0 _ H0.out.tab).mono ?_); rintro e w1 ⟨rfl, hb⟩; have H1 := Lib.hid (H0.out.keep hb); (have hs1 := H1.out.s); (obtain ⟨x0, x1⟩ := hs1); clear hb)
    | (go_at_call 35; (with_reducible refine (kt _).mono ?_); rintro e w3 ⟨rfl, hb⟩; have H3 := Lib.hid (H2.out.keep hb); clear hb)
    | (go_at_call 39; (with_reducible refine (ks _).mono ?_); rintro e w5 ⟨v5, rfl, hR, hb⟩; (obtain ⟨a5, c5, rfl⟩ := hR.slice); have H5 := Lib.hid (H4.out.keep hb); clear hb hR)
    | (go_at_call 37; first
      | ((with_reducible refine (ka _).mono ?_); rintro e w2 ⟨rfl, hb⟩; have H2 := Lib.hid (H1.out.keep hb); (have hs2 := H2.out.s); (obtain ⟨y0, y1⟩ := hs2); clear hb)
      | ((with_reducible refine (ka2 _ _ _ H6.out.set).mono ?_); rintro e w7 ⟨T, ⟨v7, rfl, hset, hmv⟩, hok⟩; (obtain rfl := nil_add hok); (have H7 : Hid (NH w v7 [⟨1, 3⟩] w7) := Lib.hid ⟨H6.out.s.moves hmv (by omega) (by simp [Value.ownBlock]), H6.out.tab.below (hmv.below H6.out.bel.size (Nat.le_refl _) (by simp [Value.ownBlock])) hT.room, hset, H6.out.bel.trans (hmv.below H6.out.bel.size (Nat.le_refl _) (by simp [Value.ownBlock]))⟩); (rw [show changed [⟨1, 3⟩] [] = true from by decide]); clear hset hmv hok))
    | (go_at_call 40; first
      | ((with_reducible refine (kz _).mono ?_); rintro e w6 ⟨rfl, hb⟩; have H6 := Lib.hid (H5.out.keep hb); (have hs6 := H6.out.s); (obtain ⟨u0, u1⟩ := hs6); clear hb)
      | ((with_reducible refine (kz2 _ _ _ H7.out.set).mono ?_); rintro e w8 ⟨rfl, hb⟩; have H8 := Lib.hid (H7.out.keep hb); clear hb))
    | (go_at_call 41; first
      | ((with_reducible refine (kh _).mono ?_); rintro e w4 ⟨rfl, hb⟩; have H4 := Lib.hid (H3.out.keep hb); clear hb)
      | ((with_reducible refine (kh1 _ _ _ H8.out.tab H8.out.set).mono ?_); rintro e w9 ⟨rfl, hb⟩; have H9 := Lib.hid (H8.out.keep hb); clear hb)
      | ((with_reducible refine (kh3 _ _ _ H9.out.tab H9.out.set).mono ?_); rintro e w10 ⟨rfl, hb⟩; have H10 := Lib.hid (H9.out.keep hb); clear hb)))
  go_ret
  exact ⟨rfl, H10.out.bel⟩
end Go.Proofs.YtdkenokjdiamhaaDoor

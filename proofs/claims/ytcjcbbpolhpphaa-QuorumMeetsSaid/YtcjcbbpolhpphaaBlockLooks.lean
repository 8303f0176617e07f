/- The contracts of window.Check, Range and Find. -/
import Derived.Test.YtcjcbbpolhpphaaBlockPlace
import Derived.Test.YtcjcbbpolhpphaaSampleG
set_option maxRecDepth 20000
set_option linter.unusedSimpArgs false
namespace Go.Proofs.Ytcjcbbpolhpphaa
open Go.RowKit Go.Proofs.Ytcjcbbpolhpphaa.Vi Go.Proofs.Ytcjcbbpolhpphaa.Mk

/-- Is it a span? -/
def okS (f t : Int) : Bool := decide (0 ≤ f ∧ f ≤ t ∧ t ≤ 1099511627777)
def errS (f t : Int) : Int := if okS f t = true then 0 else 1
/-- A span in a block. -/
structure SpA (w : World) (b : Nat) (f t : Int) : Prop where
  c0 : w.cell? ⟨b, 0, none⟩ = some (.int .i64 f)
  c1 : w.cell? ⟨b, 1, none⟩ = some (.int .i64 t)
theorem SpA.later {w w' : World} {b : Nat} {f t : Int} (h : SpA w b f t) (k : Below w.heap.size w w') : SpA w' b f t :=
  ⟨(k.cell (p := ⟨b, 0, none⟩) (World.block_lt_of_cell? w _ h.c0)).trans h.c0, (k.cell (p := ⟨b, 1, none⟩) (World.block_lt_of_cell? w _ h.c1)).trans h.c1⟩
/-- What Range hands out. -/
def rangeL (l : List Pt) (s : ByteArray) (f t : Int) : List Pt := if okS f t = true then rngL l s f t else []
/-- What Find answers. -/
def findL (l : List Pt) (s : ByteArray) (t : Int) : Pt × Bool := match look l (plc s t) with
  | some x => (x, true)
  | none => (Pt.zero, false)
theorem findL_yes {l : List Pt} (hs : srtB l = true) {s : ByteArray} {t : Int} (h : hasN l (plc s t) = true) : ∃ hi : lowN l (plc s t) < l.length, findL l s t = (l[lowN l (plc s t)], true) := by
  have e := look_has hs (plc s t)
  unfold hasN at h
  split at h
  · rename_i hi
    rw [dif_pos hi, if_pos h] at e
    refine ⟨hi, ?_⟩
    unfold findL
    rw [e]
  · cases h
theorem findL_no {l : List Pt} (hs : srtB l = true) {s : ByteArray} {t : Int} (h : hasN l (plc s t) = false) : findL l s t = (Pt.zero, false) := by
  have e := hasN_look hs (plc s t)
  rw [h] at e
  unfold findL
  cases hq : look l (plc s t) with
  | none => rfl
  | some x => rw [hq] at e; cases e
/-- A point's block, all 0, that may be written. -/
structure ZP (w : World) (b : Nat) : Prop where
  z0 : w.cell? ⟨b, 0, none⟩ = some (.string ⟨#[]⟩) ∧ w.frozen? ⟨b, 0, none⟩ = false
  z1 : w.cell? ⟨b, 1, none⟩ = some (.int .i64 0) ∧ w.frozen? ⟨b, 1, none⟩ = false
  z2 : w.cell? ⟨b, 2, none⟩ = some (.int .i64 0) ∧ w.frozen? ⟨b, 2, none⟩ = false
  z3 : w.cell? ⟨b, 3, none⟩ = some (.int .i64 0) ∧ w.frozen? ⟨b, 3, none⟩ = false
  z4 : w.cell? ⟨b, 4, none⟩ = some (.int .i64 0) ∧ w.frozen? ⟨b, 4, none⟩ = false
  z5 : w.cell? ⟨b, 5, none⟩ = some (.int .i64 0) ∧ w.frozen? ⟨b, 5, none⟩ = false
theorem ZP.new (w : World) : ZP (w.alloc (.cells #[.string ⟨#[]⟩, .int .i64 0, .int .i64 0, .int .i64 0, .int .i64 0, .int .i64 0] 55)) w.heap.size := by
  constructor <;> simp [go_sem]
theorem ZP.later {w w' : World} {b : Nat} (h : ZP w b) (k : Below w.heap.size w w') : ZP w' b := by
  have hb := World.block_lt_of_cell? w _ h.z0.1
  exact ⟨zero_later k hb _ _ h.z0.1 h.z0.2, zero_later k hb _ _ h.z1.1 h.z1.2, zero_later k hb _ _ h.z2.1 h.z2.2, zero_later k hb _ _ h.z3.1 h.z3.2, zero_later k hb _ _ h.z4.1 h.z4.2, zero_later k hb _ _ h.z5.1 h.z5.2⟩
set_option maxHeartbeats 8000000 in
theorem find_is (a0 : Option Addr) (c0 : Nat) (l : List Pt) (s : ByteArray) (t : Int) (w : World) (hS : Lst w w.heap.size a0 c0 l) (hl : l.length ≤ 200000) (hs : srtB l = true) (hn : ∀ p ∈ l, p.s.size ≤ 100000) :
    Calls Try.prog 47 #[.slice a0 l.length c0, .string s, .int .i64 t] w fun e w' => e = .returned (.tuple #[ptV (findL l s t).1, .bool (findL l s t).2]) ∧ Below w.heap.size w w' := by
  have kp := fun w h => place_is a0 c0 l s t w h hl hs
  have HZ := Lib.hid (ZP.new w)
  have HB0 := Lib.hid ((Below.refl w.heap.size w).alloc (Nat.le_refl _) (.cells #[.string ⟨#[]⟩, .int .i64 0, .int .i64 0, .int .i64 0, .int .i64 0, .int .i64 0] 55))
  have HS := Lib.hid hS
  cases hf : hasN l (plc s t) with
  | false =>
    rw [findL_no hs hf]
    rw [hf] at kp
    unfold ptV Pt.zero
    dsimp only
    generalize lowN l (plc s t) = i at *
    clear hS hs hn hf
    go_enter Try.func47, Try.ntmps47
    go_wp2_with (go_at_call 60; (with_reducible refine (kp _ (HS.out.later HB0.out)).mono ?_); rintro e w1 ⟨rfl, hb1⟩; (have HB1 := Lib.hid (bel_next HB0.out hb1)); (have hz := HZ.out.later hb1); (obtain ⟨⟨x0, u0⟩, ⟨x1, u1⟩, ⟨x2, u2⟩, ⟨x3, u3⟩, ⟨x4, u4⟩, ⟨x5, u5⟩⟩ := hz); clear hb1)
    refine bodyPost_ret (v := .tuple #[.agg #[.string ⟨#[]⟩, .int .i64 0, .int .i64 0, .int .i64 0, .int .i64 0, .int .i64 0], .bool false]) (by simp [results, Try.results47, go_sem, x0, x1, x2, x3, x4, x5, u0, u1, u2, u3, u4, u5]; try rfl) rfl ⟨rfl, ?_⟩
    exact six_set HB1.out _ (by omega) _ _ _ _ _ _
  | true =>
    obtain ⟨hi, he⟩ := findL_yes hs hf
    rw [he]
    rw [hf] at kp
    obtain ⟨i, hie⟩ : ∃ i, lowN l (plc s t) = i := ⟨_, rfl⟩
    simp only [hie] at hi kp ⊢
    obtain ⟨x, hx⟩ : ∃ x, l[i] = x := ⟨_, rfl⟩
    rw [hx]
    have hil : (i : Int) < (l.length : Int) := by omega
    have hw1 : IntKind.i64.wrap ((i : Int) + 1) = (i : Int) + 1 := by rw [IntKind.wrap_i64]; omega
    have hcap := hS.cap
    have hL := hS.cut (lo := i) (hi := i + 1) (by omega) (by omega)
    rw [List.drop_take, show i + 1 - i = 1 by omega, List.drop_eq_getElem_cons hi, hx] at hL
    simp only [List.take_succ_cons, List.take_zero] at hL
    have kt := fun w => at_mid a0 l.length c0 i (i + 1) (i : Int) ((i : Int) + 1) rfl (by omega) (by omega) (by omega) w
    have kt2 := fun w => cut_mid a0 l.length c0 i (i + 1) (i : Int) ((i : Int) + 1) rfl (by omega) (by omega) (by omega) w
    rw [show i + 1 - i = 1 by omega] at kt kt2
    obtain ⟨p, hp⟩ : ∃ p, cutP a0 i c0 = p := ⟨_, rfl⟩
    obtain ⟨c2, hc2⟩ : ∃ c2, c0 - i = c2 := ⟨_, rfl⟩
    rw [hp, hc2] at kt kt2 hL
    have hxn : x.s.size ≤ 100000 := hn x (by rw [← hx]; exact List.getElem_mem hi)
    have ko := fun w h => own_is p c2 [x] w h (by simp) (fun y hy => by rw [List.mem_singleton] at hy; subst hy; exact hxn)
    simp only [List.length_singleton] at ko
    have HL := Lib.hid hL
    unfold ptV
    clear hS hs hn hf he hi hie hx hcap hL hp hc2
    go_enter Try.func47, Try.ntmps47
    go_wp2_with (first
      | (go_at_call 60; (with_reducible refine (kp _ (HS.out.later HB0.out)).mono ?_); rintro e w1 ⟨rfl, hb1⟩; (have HB1 := Lib.hid (bel_next HB0.out hb1)); (have HZ1 := Lib.hid (HZ.out.later hb1)); clear hb1)
      | (go_at_call 56; (with_reducible refine (ko _ (HL.out.later HB1.out)).mono ?_); rintro e w2 ⟨v, rfl, hr2, hb2⟩; (have HB2 := Lib.hid (bel_next HB1.out hb2)); (have hz := HZ1.out.later hb2); (obtain ⟨⟨x0, u0⟩, ⟨x1, u1⟩, ⟨x2, u2⟩, ⟨x3, u3⟩, ⟨x4, u4⟩, ⟨x5, u5⟩⟩ := hz); (have hsl := hr2.slice); (obtain ⟨a4, c4, rfl⟩ := hsl); (have hne := hr2.lt (P := w.heap.size)); (obtain ⟨b4, o4, rfl, hb4, hq⟩ := hr2.lst.some_); (obtain ⟨y0, y1, y2, y3, y4, y5⟩ := hq); (have hge := (World.ownsRow.lt hr2 b4 rfl).1); clear hb2 hr2))
    refine bodyPost_ret (v := .tuple #[.agg #[.string x.s, .int .i64 x.t, .int .i64 x.v, .int .i64 x.st.c, .int .i64 x.st.s, .int .i64 x.st.q], .bool true]) (by simp [results, Try.results47, go_sem, x0, x1, x2, x3, x4, x5]; try rfl) rfl ⟨rfl, ?_⟩
    exact six_set HB2.out _ (by omega) _ _ _ _ _ _
end Go.Proofs.Ytcjcbbpolhpphaa

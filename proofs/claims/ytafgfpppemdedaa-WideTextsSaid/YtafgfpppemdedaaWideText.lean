/- The contract of package wide's Text: the decimal text of the number. -/
import Derived.Test.YtafgfpppemdedaaWideOwn
namespace Go.Proofs.Ytafgfpppemdedaa
open Go.RowKit Go.Proofs.Ytafgfpppemdedaa.Wd

theorem ownsRow_len {w : World} {base size n : Nat} {e : TypeId} {v : Value} {xs : List Value} (h : w.ownsRow base e size v n xs) : ∃ a c, v = .slice a n c := by
  rcases h.2 with ⟨h, h0⟩ | ⟨g, cap, cur, h, _⟩
  · exact ⟨_, _, by rw [h, h0]⟩
  · exact ⟨_, _, h⟩
def lenZero : Option Value → Nat
  | some (.slice _ n _) => if n = 0 then 1 else 0
  | _ => 0
/-- What the loop of Text lowers. -/
def meas (B : Nat) (a b : Value) (wr : World) : Nat := 2 * (intOf a * 18446744073709551616 + intOf b).toNat + lenZero (wr.cell? ⟨B, 0, none⟩)

/-- What the loop of Text has done: M is left of N, xs are the digits so far, the last one first. -/
structure TextRel (w wr : World) (B N M : Nat) (x y : Int) (a : Option Addr) (cp : Nat) (xs : List UInt8) : Prop where
  halves : URep x y (M : Int)
  at_ : TextAt wr B (.slice a xs.length cp) xs
  first : xs = [] → M = N
  later : xs ≠ [] → dec N = decz M ++ xs.reverse
  below : Below B w wr
  small : M < 10000000000000000000000000000000000000000

theorem TextRel.next {w wr w1 w2 : World} {B N M : Nat} {x y x' y' : Int} {a : Option Addr} {cp : Nat} {xs : List UInt8} {v' : Value} {c : UInt8} (R : TextRel w wr B N M x y a cp xs) (hc : c = UInt8.ofNat (48 + M % 10))
    (h0 : xs ≠ [] → M ≠ 0) (X : URep x' y' ((M : Int) / 10)) (h1 : Below wr.heap.size wr w1) (h2 : TextAt w2 B v' (xs ++ [c])) (h3 : Below B w1 w2) : ∃ a' cp', v' = .slice a' (xs.length + 1) cp' ∧ TextRel w w2 B N (M / 10) x' y' a' cp' (xs ++ [c]) := by
  obtain ⟨a', cp', rfl⟩ := ownsRow_len h2.own
  refine ⟨a', cp', by simp, ?_⟩
  refine ⟨X, h2, fun e => absurd e (by simp), fun _ => ?_, (R.below.trans (h1.mono (Nat.le_of_lt R.at_.room))).trans h3, by have := R.small; omega⟩
  rw [List.reverse_append, List.reverse_singleton, ← List.append_assoc, hc]
  by_cases hx : xs = []
  · have := R.first hx
    subst hx
    subst this
    by_cases hM : M = 0
    · subst hM; rfl
    · show dec M = _
      unfold dec
      rw [if_neg hM, decz_step M hM R.small]; simp
  · rw [R.later hx, decz_step M (h0 hx) R.small]
theorem TextRel.len {w wr : World} {B N M : Nat} {x y : Int} {a : Option Addr} {cp : Nat} {xs : List UInt8} (R : TextRel w wr B N M x y a cp xs) (hN : N < 1000000000000000000000000000000000000000) : xs.length ≤ 39 := by
  by_cases hx : xs = []
  · subst hx; simp
  · have := dec_length N hN
    rw [R.later hx] at this
    simp at this; omega

theorem meas_is {w wr : World} {B N M : Nat} {x y : Int} {a : Option Addr} {cp : Nat} {xs : List UInt8} (R : TextRel w wr B N M x y a cp xs) : meas B (.int .u64 x) (.int .u64 y) wr = 2 * M + if xs = [] then 1 else 0 := by
  unfold meas
  rw [R.at_.cell]
  have := R.halves.eq
  show 2 * (x * 18446744073709551616 + y).toNat + (if xs.length = 0 then 1 else 0) = _
  rw [← this]
  by_cases hx : xs = []
  · subst hx; simp
  · have : xs.length ≠ 0 := fun e => hx (List.eq_nil_of_length_eq_zero e)
    rw [if_neg this, if_neg hx]; simp
theorem meas_lt {w wr w' : World} {B N M : Nat} {x y x' y' : Int} {a a' : Option Addr} {cp cp' : Nat} {xs : List UInt8} {c : UInt8} (R : TextRel w wr B N M x y a cp xs) (R' : TextRel w w' B N (M / 10) x' y' a' cp' (xs ++ [c]))
    (h : xs = [] ∨ M ≠ 0) : meas B (.int .u64 x') (.int .u64 y') w' < meas B (.int .u64 x) (.int .u64 y) wr := by
  rw [meas_is R, meas_is R', if_neg (by simp)]
  rcases h with rfl | h
  · rw [if_pos rfl]; omega
  · split <;> omega
theorem urep_div {x y : Int} {M : Nat} (h : URep x y (M : Int)) : ∃ x' y', URep x' y' ((M : Int) / 10) := by
  obtain ⟨p1, p2, p3, p4, p5⟩ := h
  exact ⟨(M : Int) / 10 / 18446744073709551616, (M : Int) / 10 % 18446744073709551616, by omega, by omega, by omega, by omega, by omega⟩
theorem TextAt.bytes {w : World} {b : Nat} {v : Value} {xs : List UInt8} (h : TextAt w b v xs) (hx : xs ≠ []) (n : Nat) (hn : xs.length = n) : ∃ g cp, v = .slice (some ⟨g, 0, none⟩) n cp ∧ b + 1 ≤ g ∧ BytesFn w g n (fun p => xs.getD p 0) := by
  subst hn
  have hown := h.own
  obtain ⟨hl, h2⟩ := hown
  rcases h2 with ⟨_, h0⟩ | ⟨g, cap, cur, hv, hg, hh, hn, hm, hs, ht⟩
  · exact absurd (List.eq_nil_of_length_eq_zero h0) hx
  · subst hv
    refine ⟨g, cap, rfl, hg, fun p hp => ?_⟩
    have e1 := World.ownsRow.cellAt h.own p (by omega)
    have e2 := World.ownsRow.frozenAt h.own p
    refine ⟨?_, e2⟩
    rw [e1]
    simp [hp, bcellv]
theorem back_run {w : World} {g n : Nat} {f : Nat → UInt8} (h : BytesFn w g n f) (cp : Nat) : (convert 54 9 (.slice (some ⟨g, 0, none⟩) n cp)).run Try.prog w = .ok (.string ⟨((List.range n).map f).toArray⟩) w := by
  have := run_convert_bytes_back (P := Try.prog) w 54 9 5 ⟨g, 0, none⟩ cp ((List.range n).map f) Try.underlying54 Try.underlying5 Try.underlying9 fun j hj => ?_
  · simpa using this
  · have hj' : j < n := by simpa using hj
    have hp : (⟨g, 0, none⟩ : Addr).add j = ⟨g, j, none⟩ := by unfold Addr.add; split <;> simp_all
    rw [hp, (h j hj').1]; simp
theorem rev_list (ys : List UInt8) : (List.range ys.length).map (fun p => ys.getD (ys.length - 1 - p) 0) = ys.reverse := by
  apply List.ext_getElem
  · simp
  · intro i h1 h2
    have hi : i < ys.length := by simpa using h1
    simp [List.getD_eq_getElem?_getD]
    rw [List.getElem?_eq_getElem (by omega)]; rfl
theorem back_rev {w : World} {g n : Nat} {ys t : List UInt8} (h : BytesFn w g n (fun p => ys.getD (n - 1 - p) 0)) (cp : Nat) (hn : ys.length = n) (ht : Hid (t = ys.reverse)) : (convert 54 9 (.slice (some ⟨g, 0, none⟩) n cp)).run Try.prog w = .ok (.string ⟨t.toArray⟩) w := by
  subst hn
  rw [back_run h cp, rev_list, ht.out]
theorem Wd.Rep.sign {h l a : Int} (A : Rep h l a) : h < 0 ↔ a < 0 := by
  obtain ⟨q1, q2, q3, q4, q5⟩ := A
  omega
theorem makeFunc_run (fn : Fn) (first cap : Array Value) (w : World) : (Instr.makeFunc fn first cap).run Try.prog w = .ok (.func fn first cap) w := rfl

set_option maxHeartbeats 1000000 in
theorem text_any (h l a : Int) (w : World) (A : Rep h l a) :
    Calls Try.prog 25 #[.agg #[.int .i64 (h), .int .u64 (l)]] w fun e w' => e = .returned (.string ⟨(textOf a).toArray⟩) ∧ Below w.heap.size w w' := by
  have hmf := makeFunc_run
  obtain ⟨x0, y0, X0⟩ := urep_abs A.inW
  have k1 : ∀ w, Calls Try.prog 42 #[.agg #[.int .i64 (h), .int .u64 (l)]] w fun e w' => e = .returned (.tuple #[.int .u64 x0, .int .u64 y0]) ∧ Below w.heap.size w w' := by
    intro w
    by_cases ha : 0 ≤ a
    · exact unsigned_pos h l a x0 y0 w A X0 ha
    · exact unsigned_neg h l a x0 y0 w A X0 (by omega)
  go_enter Try.func25, Try.ntmps25
  go_wp2_with (go_at_call 42; (with_reducible refine (k1 _).mono ?_); rintro e w1 ⟨rfl, hb⟩; obtain ⟨hc, hf⟩ := bcell hb; have hz := hb.size; (try simp at hz))
  have hN : a.natAbs < 1000000000000000000000000000000000000000 := by have := inW_abs A.inW; omega
  have hbox : w1.cell? ⟨w.heap.size, 0, none⟩ = some (.int .i64 h) := by simp [go_sem, hc]
  have hR0 : TextRel w1 w1 (w.heap.size + 1) a.natAbs a.natAbs x0 y0 none 0 [] :=
    ⟨X0, ⟨by simp [go_sem, hc], by simp [go_sem, hf], World.ownsRow_nil _ _ _ _⟩, fun _ => rfl, fun e => absurd rfl e, Below.refl _ _, by omega⟩
  have hb0 : Below w.heap.size w w1 := by (repeat (first | exact Below.refl _ _ | refine Below.drew ?_ | refine below_drewN ?_ _ | (refine Below.setCell ?_ (by simp; try omega) _) | (refine below_new ?_ _ (by simp; try omega)) | (refine below_on ?_ (by assumption)) | (refine below_next ?_ (by assumption) (by simp; try omega)) | assumption))
  clear hc hf hb k1 hmf
  have HR0 := Lib.hid hR0
  have HBOX := Lib.hid hbox
  clear hR0 hbox
  go_loopw [5, 6] (fun x y wr => ∃ (M : Nat) (x1 y1 : Int) (ad : Option Addr) (cp : Nat) (xs : List UInt8), x = .int .u64 x1 ∧ y = .int .u64 y1 ∧ TextRel w1 wr (w.heap.size + 1) a.natAbs M x1 y1 ad cp xs) (fun x y wr => meas (w.heap.size + 1) x y wr)
  case atStart => exact ⟨_, _, _, _, _, _, rfl, rfl, HR0.out⟩
  case round =>
    obtain ⟨M, x, y, ad, cp, xs, rfl, rfl, R⟩ := hrel
    have hlen := R.len hN
    have hcell := R.at_.cell
    by_cases hgo : xs = [] ∨ M ≠ 0
    · obtain ⟨c, hcc⟩ : ∃ c, c = UInt8.ofNat (48 + M % 10) := ⟨_, rfl⟩
      obtain ⟨x', y', X'⟩ : ∃ x' y', URep x' y' ((M : Int) / 10) := urep_div R.halves
      have k2 := fun w => tenth_any x y x' y' (M : Int) ((M : Int) % 10) w R.halves X' rfl
      have k3 : ∀ w2, Below wr.heap.size wr w2 → Calls Try.prog 41 #[.int .u8 (48 + (M : Int) % 10), .pointer (some ⟨w.heap.size + 1, 0, none⟩)] w2 (PutDone (w.heap.size + 1) xs c w2) :=
        fun w2 hb2 => put_any _ _ xs c _ w2 (by rw [hcc, digit_toNat _ (Nat.mod_lt _ (by decide))]; omega) (R.at_.below hb2) (by omega)
      have hd : 0 ≤ (M : Int) % 10 ∧ (M : Int) % 10 ≤ 9 := by omega
      have ht : ((xs.length : Int) == 0) = true ∨ (((xs.length : Int) == 0) = false ∧ ((x == 0) = false ∨ (x = 0 ∧ (y == 0) = false))) := by
        by_cases hx : xs = []
        · exact Or.inl (by rw [hx]; rfl)
        · right
          have := List.length_pos_iff.2 hx
          have := hgo.resolve_left hx
          have := R.halves.eq
          have := R.halves.x0
          have := R.halves.y0
          refine ⟨by simp; omega, ?_⟩
          by_cases h0 : x = 0
          · exact Or.inr ⟨h0, by simp; omega⟩
          · exact Or.inl (by simp; exact h0)
      have HR := Lib.hid R
      have HC := Lib.hid hcc
      have HG := Lib.hid hgo
      clear R hcc hgo
      rcases ht with t0 | ⟨t1, t2 | ⟨rfl, t2⟩⟩
      all_goals
        go_wp2_with (first
          | (go_at_call 43; (with_reducible refine (k2 _).mono ?_); rintro e w2 ⟨rfl, hb2⟩)
          | (go_at_call 41; (with_reducible refine (k3 _ hb2).mono ?_); rintro e w3 ⟨rfl, v3, hT3, hB3⟩))
        obtain ⟨a', cp', rfl, R'⟩ := HR.out.next HC.out (fun hx => HG.out.resolve_left hx) X' hb2 hT3 hB3
        have HR' := Lib.hid R'
        have HM := Lib.hid (meas_lt HR.out HR'.out (by simp; exact HG.out))
        clear R'
        go_roundw
        case rel => exact ⟨M / 10, x', y', a', cp', xs ++ [c], rfl, rfl, HR'.out⟩
        case measure => exact HM.out
    · have hx : xs ≠ [] := fun e => hgo (Or.inl e)
      have hM : M = 0 := Decidable.byContradiction fun e => hgo (Or.inr e)
      subst hM
      have hdec : Hid (dec a.natAbs = xs.reverse) := by
        have := R.later hx
        rwa [decz_zero, List.nil_append] at this
      have h1 : ((xs.length : Int) == 0) = false := by
        have := List.length_pos_iff.2 hx
        simp; omega
      have hxy : x = 0 ∧ y = 0 := by
        obtain ⟨q1, q2, q3, q4, q5⟩ := R.halves
        omega
      obtain ⟨rfl, rfl⟩ := hxy
      have hbox : wr.cell? ⟨w.heap.size, 0, none⟩ = some (.int .i64 h) := (R.below.cell (p := ⟨w.heap.size, 0, none⟩) (by simp)).trans HBOX.out
      have hbel : Below w.heap.size w wr := hb0.trans (R.below.mono (by omega))
      have hT := R.at_
      have hroom := hT.room
      have hh := A.sign
      clear R hgo HR0 HBOX hb0
      by_cases ha : h < 0
      · have hneg : Hid (textOf a = (xs ++ [45]).reverse) := by
          show _ = _
          unfold textOf
          rw [if_pos (hh.1 ha), hdec.out, List.reverse_append]; rfl
        have k3 := put_any (w.heap.size + 1) _ xs 45 45 wr (by decide) hT (by omega)
        go_wp2_with (first
          | (go_at_call 41; (with_reducible refine k3.mono ?_); rintro e w3 ⟨rfl, v3, hT3, hB3⟩; obtain ⟨g, cp3, rfl, hg, hF3⟩ := hT3.bytes (by simp) (xs.length + 1) (by simp); have hc3 := hT3.cell; have hr3 := reverse_any g (xs.length + 1) cp3 _ w3 (by omega) (by omega) hF3; clear hT3 hF3)
          | (go_at_call 44; (with_reducible refine hr3.mono ?_); rintro e w4 ⟨rfl, hF4, hb4⟩; have hcv := back_rev hF4 cp3 (by simp) hneg; have hc4 := (hb4.cell (p := ⟨w.heap.size + 1, 0, none⟩) (by show w.heap.size + 1 < g; omega)).trans hc3))
        go_ret
        exact ⟨rfl, (hbel.trans (hB3.mono (by omega))).trans (hb4.mono (by omega))⟩
      · have hpos : Hid (textOf a = xs.reverse) := by
          show _ = _
          unfold textOf
          rw [if_neg (fun e => ha (hh.2 e)), hdec.out]
        obtain ⟨g, cp3, hv, hg, hF3⟩ := hT.bytes hx xs.length rfl
        obtain ⟨rfl, rfl⟩ : ad = some ⟨g, 0, none⟩ ∧ cp = cp3 := by simpa using hv
        have hr3 := reverse_any g xs.length cp _ wr (List.length_pos_iff.2 hx) (by omega) hF3
        have hc3 := hT.cell
        clear hT hF3 hv hcell
        go_wp2_with (first
          | (go_at_call 44; (with_reducible refine hr3.mono ?_); rintro e w4 ⟨rfl, hF4, hb4⟩; have hcv := back_rev hF4 cp rfl hpos; have hc4 := (hb4.cell (p := ⟨w.heap.size + 1, 0, none⟩) (by show w.heap.size + 1 < g; omega)).trans hc3))
        go_ret
        exact ⟨rfl, hbel.trans (hb4.mono (by omega))⟩
end Go.Proofs.Ytafgfpppemdedaa

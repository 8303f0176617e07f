/- Points of the call's own in a slice; the contract of the laws' own right. -/
import Derived.Test.YtipjhlabcbkgjaaAggPts
import Derived.Test.YtipjhlabcbkgjaaAggFew
import Derived.Test.YtipjhlabcbkgjaaAggMath
import Derived.Deep.AppendLies
set_option maxRecDepth 20000
namespace Go.Proofs.Ytipjhlabcbkgjaa.Ag
open Go.RowKit Go.Proofs.Ytipjhlabcbkgjaa Go.Proofs.Ytipjhlabcbkgjaa.Wd Go.Proofs.Ytipjhlabcbkgjaa.Vi Go.Proofs.Ytipjhlabcbkgjaa.Mk

theorem and7 (n : Int) : bits .and .i64 n 7 = n % 8 := by
  have hm : (BitVec.ofInt 64 7).toNat = 2 ^ 3 - 1 := by decide
  have key : (BitVec.ofInt 64 n &&& BitVec.ofInt 64 7).toNat = (n % ((2 ^ 64 : Nat) : Int)).toNat % 2 ^ 3 := by
    rw [BitVec.toNat_and, BitVec.toNat_ofInt, hm, Nat.and_two_pow_sub_one_eq_mod]
  show IntKind.i64.wrap ((BitVec.ofInt 64 n &&& BitVec.ofInt 64 7).toNat : Nat) = n % 8
  rw [key, IntKind.wrap_i64]
  omega
theorem infoP : (Try.prog.info? 31).map (fun i => (i.zero, i.size, i.bytes)) = some (some (.agg #[.string ⟨#[]⟩, .int .i64 0, .int .i64 0, .int .i64 0, .int .i64 0, .int .i64 0]), 6, 56) := by kernel_rfl
theorem flat6_at (l : List Pt) : ∀ i (h : i < l.length) r, r < 6 → (l.flatMap cells6)[i * 6 + r]? = (cells6 l[i])[r]? := by
  induction l with
  | nil => intro i h; simp at h
  | cons a t ih =>
    intro i h r hr
    have e : (a :: t).flatMap cells6 = cells6 a ++ t.flatMap cells6 := by simp
    have hl : (cells6 a).length = 6 := rfl
    rw [e]
    cases i with
    | zero =>
      rw [List.getElem?_append_left (by omega)]
      simp
    | succ i =>
      rw [List.getElem?_append_right (by omega), hl]
      have e2 : (i + 1) * 6 + r - 6 = i * 6 + r := by omega
      rw [e2, ih i (by simpa using h) r hr]
      simp
def PRow (w : World) (B : Nat) (v : Value) (xs : List Pt) : Prop := w.ownsRow B 31 6 v xs.length (xs.flatMap cells6)
theorem PRow.slice {w : World} {B : Nat} {v : Value} {xs : List Pt} (h : PRow w B v xs) : ∃ a c, v = .slice a xs.length c := by
  rcases h.2 with ⟨h, h0⟩ | ⟨g, cap, cur, h, _⟩
  · exact ⟨_, _, by rw [h, h0]⟩
  · exact ⟨_, _, h⟩
theorem PRow.nil (w : World) (B : Nat) : PRow w B (.slice none 0 0) [] := World.ownsRow_nil _ _ _ _
theorem PRow.later {w w' : World} {B : Nat} {v : Value} {xs : List Pt} (h : PRow w B v xs) (k : Below w.heap.size w w') : PRow w' B v xs := by
  obtain ⟨h1, h2⟩ := h
  refine ⟨h1, ?_⟩
  rcases h2 with h2 | ⟨g, cap, cur, e1, e2, e3, rest⟩
  · exact Or.inl h2
  · have hg : g < w.heap.size := (Array.getElem?_eq_some_iff.1 e3).1
    exact Or.inr ⟨g, cap, cur, e1, e2, (k.block g hg).trans e3, rest⟩
theorem PRow.pts {w : World} {B : Nat} {a : Option Addr} {n c : Nat} {xs : List Pt} (h : PRow w B (.slice a n c) xs) : Pts w w.heap.size a xs := by
  by_cases hz : xs = []
  · exact ⟨Or.inl hz⟩
  · have hp : 0 < xs.length := List.length_pos_iff.2 hz
    have h0 := h
    rcases h.2 with ⟨hv, h0⟩ | ⟨g, cap, cur, hv, _⟩
    · exact absurd (List.eq_nil_of_length_eq_zero h0) hz
    · injection hv with e1 e2 e3
      subst e1 e2 e3
      have e1 := World.ownsRow.cellAt (show w.ownsRow B 31 6 _ xs.length (xs.flatMap cells6) from h0)
      have c : ∀ j (hj : j < xs.length), PtO w g (0 + j * 6) xs[j] := fun j hj => by
        rw [Nat.zero_add]
        refine ⟨?_, ?_, ?_, ?_, ?_, ?_⟩
        · have := flat6_at xs j hj 0 (by omega)
          rw [Nat.add_zero] at this
          rw [e1 _ (by omega), this]; rfl
        · rw [e1 _ (by omega), flat6_at xs j hj 1 (by omega)]; rfl
        · rw [e1 _ (by omega), flat6_at xs j hj 2 (by omega)]; rfl
        · rw [e1 _ (by omega), flat6_at xs j hj 3 (by omega)]; rfl
        · rw [e1 _ (by omega), flat6_at xs j hj 4 (by omega)]; rfl
        · rw [e1 _ (by omega), flat6_at xs j hj 5 (by omega)]; rfl
      exact ⟨Or.inr ⟨g, 0, rfl, (c 0 hp).room, c⟩⟩
theorem owns6_later {w w' : World} {B size n : Nat} {e : TypeId} {v : Value} {xs : List Value} (h : w.ownsRow B e size v n xs) (k : Below w.heap.size w w') : w'.ownsRow B e size v n xs := by
  obtain ⟨h1, h2⟩ := h
  refine ⟨h1, ?_⟩
  rcases h2 with h2 | ⟨g, cap, cur, e1, e2, e3, rest⟩
  · exact Or.inl h2
  · have hg : g < w.heap.size := (Array.getElem?_eq_some_iff.1 e3).1
    exact Or.inr ⟨g, cap, cur, e1, e2, (k.block g hg).trans e3, rest⟩
/-- A point with a stamp of its own. -/
def rtP (i : Nat) (p : Pt) : Pt := ⟨p.s, p.t, p.v, ⟨1 + p.st.c % 8, p.st.s % 8, (i : Int) + 1⟩⟩
def rtN (l : List Pt) (k : Nat) : List Pt := (l.take k).mapIdx rtP
def rtL (l : List Pt) : List Pt := rtN l 40
theorem rtN_step {l : List Pt} {k : Nat} (h : k < l.length) : rtN l (k + 1) = rtN l k ++ [rtP k l[k]] := by
  unfold rtN
  rw [List.take_succ_eq_append_getElem h, List.mapIdx_concat, List.length_take, Nat.min_eq_left (by omega)]
theorem rtN_len (l : List Pt) (k : Nat) : (rtN l k).length = min k l.length := by unfold rtN; rw [List.length_mapIdx, List.length_take]
theorem rtN_end {l : List Pt} {k : Nat} (h : min l.length 40 = k) : rtN l k = rtL l := by
  unfold rtL rtN
  subst h
  rw [← List.take_take, List.take_of_length_le (l := l.take 40) (by rw [List.length_take]; omega)] <;> simp
/-- What right's loop has put together. -/
structure RtRel (w wr : World) (l : List Pt) (o : Value) (k : Nat) : Prop where
  row : PRow wr w.heap.size o (rtN l k)
  bel : Below w.heap.size w wr
/-- What right answers. -/
def RightDone (l : List Pt) (w : World) (e : Ending) (w' : World) : Prop := ∃ v, e = .returned v ∧ PRow w' w.heap.size v (rtL l) ∧ Below w.heap.size w w'
set_option maxHeartbeats 4000000 in
theorem right_is (a0 : Option Addr) (len cap0 : Nat) (w : World) (l : List Pt) (hl : Hid (l.length = len)) (hS : Pts w w.heap.size a0 l) (hc0 : len ≤ cap0) (hn : len ≤ 9223372036854775807) : Calls Try.prog 31 #[.slice a0 len cap0] w (RightDone l w) := by
  obtain ⟨i0, hi, hz0, hz1, hz2⟩ := info_parts infoP
  have kf := fun w => few_is a0 len cap0 w hc0
  unfold FewDone at kf
  obtain ⟨m, hm⟩ : ∃ m, min len 40 = m := ⟨_, rfl⟩
  rw [hm] at kf
  have hm40 : m ≤ 40 := by omega
  have HM := Lib.hid (show m ≤ l.length ∧ min l.length 40 = m from by rw [hl.out]; omega)
  have HS := Lib.hid hS
  clear hS hm
  have HR0 := Lib.hid (show RtRel w w l (.slice none 0 0) 0 from ⟨PRow.nil _ _, Below.refl _ _⟩)
  go_enter Try.func31, Try.ntmps31
  go_wp2_with (go_at_call 18; (with_reducible refine (kf _).mono ?_); rintro e w1 ⟨c, rfl, rfl⟩)
  go_loopw [3, 5, 6] (fun o i _ wr => ∃ (k : Nat), k ≤ m ∧ i = .int .i64 (k : Int) ∧ RtRel w wr l o k) (fun _ i _ _ => m - (intOf i).toNat)
  case atStart => exact ⟨0, by omega, rfl, HR0.out⟩
  case round =>
    obtain ⟨k, hk, rfl, P⟩ := hrel
    clear HR0
    by_cases hgo : k < m
    · have hi1 : (k : Int) < (m : Int) := by omega
      have hwk : IntKind.i64.wrap ((k : Int) + 1) = (k : Int) + 1 := by rw [IntKind.wrap_i64]; omega
      have g1 : k < l.length := by have := HM.out.1; omega
      rcases HS.out.at_ with h0 | ⟨b, off, rfl, hbw, hc⟩
      · rw [h0] at g1; simp at g1
      · have hA := hc k g1
        obtain ⟨p, hp⟩ : ∃ p, l[k] = p := ⟨_, rfl⟩
        rw [hp] at hA
        obtain ⟨c0, c1, c2, c3, c4, c5⟩ := hA.below P.bel hbw
        obtain ⟨x, hx⟩ : ∃ x, p.st.c % 8 = x := ⟨_, rfl⟩
        obtain ⟨y, hy⟩ : ∃ y, p.st.s % 8 = y := ⟨_, rfl⟩
        have hx8 : 0 ≤ x ∧ x ≤ 7 := by omega
        have hbx : bits .and .i64 p.st.c 7 = x := (and7 _).trans hx
        have hby : bits .and .i64 p.st.s 7 = y := (and7 _).trans hy
        have hwx : IntKind.i64.wrap (1 + x) = 1 + x := by rw [IntKind.wrap_i64]; omega
        have HG := Lib.hid (show rtN l (k + 1) = rtN l k ++ [(⟨p.s, p.t, p.v, ⟨1 + x, y, (k : Int) + 1⟩⟩ : Pt)] by rw [rtN_step g1, hp, ← hx, ← hy]; rfl)
        obtain ⟨a5, cc5, rfl⟩ := P.row.slice
        have hkl : (rtN l k).length = k := by rw [rtN_len]; omega
        have hrow : wr.ownsRow w.heap.size 31 6 (.slice a5 k cc5) k ((rtN l k).flatMap cells6) := by have := P.row; unfold PRow at this; rw [hkl] at this; exact this
        have HNN := Lib.hid hkl
        have hN := (Below.refl wr.heap.size wr).alloc (Nat.le_refl _) (.cells #[.string p.s, .int .i64 p.t, .int .i64 p.v, .int .i64 (1 + x), .int .i64 y, .int .i64 ((k : Int) + 1)] 31)
        have hR := owns6_later hrow hN
        have hBB := bel_next P.bel hN
        have hBr := hBB.size
        have hWR := Lib.hid P.bel.size
        have hne : ∀ q, (Value.slice a5 k cc5).ownBlock = some q → w.heap.size ≤ q := fun q hq => (World.ownsRow.lt hR q hq).1
        have HR := Lib.hid hR
        have HBB := Lib.hid hBB
        have HBr := Lib.hid hBr
        have HNE := Lib.hid hne
        rw [hkl]
        clear hc hA P hp hkl hrow hN hR hBB hBr hne hx hy
        go_wp2_with (at_builtin; refine wpList_append_own _ rfl _ _ 37 rfl w.heap.size 31 i0 (.agg #[.string ⟨#[]⟩, .int .i64 0, .int .i64 0, .int .i64 0, .int .i64 0, .int .i64 0]) 6 56 Try.underlying37 hi hz0 hz1 hz2 rfl (by decide) _ _ _ rfl (HR.out.alloc _) ⟨wr.heap.size + 1, 0, none⟩ 1 1 (cells6 ⟨p.s, p.t, p.v, ⟨1 + x, y, (k : Int) + 1⟩⟩) rfl rfl ?c1 ?c2 ?c3 ?c4 ?c5 ?_)
        case c1 =>
          intro j u hj
          match j, hj with
          | 0, hj | 1, hj | 2, hj | 3, hj | 4, hj | 5, hj => simp [cells6] at hj; subst hj; first | (simp [Addr.add]; done) | (simp; done)
        case c2 => intro u hu; simp [cells6] at hu; rcases hu with rfl | rfl | rfl | rfl | rfl | rfl <;> rfl
        case c3 => unfold maxLen; (try simp); omega
        case c4 => (try simp); omega
        case c5 => have := HBr.out; (try simp at this ⊢); omega
        intro v' w3 hown3 hgrow _
        have hB3 := HBB.out.trans (((Below.refl w.heap.size _).alloc HBr.out _).grown hgrow (by have := hWR.out; simp; omega) HNE.out)
        have hR3 : PRow w3 w.heap.size v' (rtN l (k + 1)) := by
          unfold PRow
          rw [HG.out, List.length_append, List.flatMap_append, HNN.out]
          simpa [cells6] using hown3
        have HR3 := Lib.hid (show RtRel w w3 l v' (k + 1) from ⟨hR3, hB3⟩)
        clear hown3 hgrow hR3 hB3
        go_wp2
        go_roundw
        case rel => exact ⟨k + 1, by omega, by go_num, HR3.out⟩
        case measure => simp [intOf]; omega
    · have hi1 : ¬ (k : Int) < (m : Int) := by omega
      obtain rfl : k = m := by omega
      have hend := rtN_end HM.out.2
      obtain ⟨a5, cc5, rfl⟩ := P.row.slice
      have HP := Lib.hid P
      rw [hend]
      have HE := Lib.hid hend
      clear P hgo hend
      go_wp2
      go_ret
      exact ⟨_, rfl, by have := HP.out.row; rw [HE.out] at this; exact this, HP.out.bel⟩
end Go.Proofs.Ytipjhlabcbkgjaa.Ag

/- The contract of the document's Get. -/
import Derived.Test.YtjckphmkhikpaaaVintGet
import Derived.Test.YtjckphmkhikpaaaVintRefMath
import Derived.Deep.RegionHeld3
namespace Go.Proofs.Ytjckphmkhikpaaa
open Go.RowKit Go.Proofs.Ytjckphmkhikpaaa.Vi

/-- The digits of a text from a place on, the last n - j of n, as the document's loop sums them up. -/
def sumUp (l : List UInt8) (a n j : Nat) : Nat := val ((l.drop (a + j)).take (n - j)) % 18446744073709551616
theorem sumUp_end (l : List UInt8) (a n : Nat) : sumUp l a n n = 0 := by unfold sumUp; simp [val]
theorem sumUp_step {l : List UInt8} {a n j : Nat} (h : a + j < l.length) (hj : j < n) : ((l[a + j]).toNat % 128 + 128 * sumUp l a n (j + 1)) % 18446744073709551616 = sumUp l a n j := by
  unfold sumUp
  rw [show l.drop (a + j) = l[a + j] :: l.drop (a + (j + 1)) from List.drop_eq_getElem_cons h, show n - j = (n - (j + 1)) + 1 by omega, List.take_succ_cons]
  show _ = ((l[a + j]).toNat % 128 + 128 * val _) % _
  omega
theorem getR_of {l : List UInt8} {a : Nat} {v p e : Int} (h : getR l (a : Int) = (v, p, e)) {o : Option (Nat × Nat)} (ho : getL 0 (l.drop a) = o) :
    (o = none ∧ v = 0 ∧ p = 0 ∧ e = 10) ∨ ∃ u m : Nat, o = some (u, m) ∧ v = (u : Int) ∧ p = (a : Int) + (m : Int) ∧ e = 0 := by
  unfold getR at h
  rw [if_neg (by omega), Int.toNat_natCast, ho] at h
  cases o with
  | none => left; simpa [eq_comm] using h
  | some x =>
    right
    simp at h
    obtain ⟨rfl, rfl, rfl⟩ := h
    exact ⟨x.1, x.2, rfl, rfl, rfl, rfl⟩
/-- What the document's Get leaves. -/
def GotDone (v p e : Int) (w : World) (r : Ending) (w' : World) : Prop := r = .returned (.tuple #[.int .u64 v, .int .i64 p, .int .i64 e]) ∧ Below w.heap.size w w'
theorem extract_tx (s : ByteArray) (a n : Nat) : s.extract a (a + n) = tx ((s.data.toList.drop a).take n) := by
  apply ByteArray.ext
  apply Array.toList_inj.1
  simp [tx, ByteArray.data_extract]
theorem str_ne {a b : ByteArray} (h : ¬ a = b) : (a.toList == b.toList) = false := by
  rw [ByteArray.toList_eq, ByteArray.toList_eq]
  apply Bool.eq_false_iff.2
  intro e
  exact h (ByteArray.ext (Array.toList_inj.1 (eq_of_beq e)))

set_option maxRecDepth 20000 in
set_option maxHeartbeats 4000000 in
theorem refGet_is (s : ByteArray) (at_ v p e : Int) (w : World) (hs : s.size ≤ maxLen) (ha0 : -9223372036854775808 ≤ at_) (ha1 : at_ ≤ 9223372036854775807) (H : Hid (getR s.data.toList at_ = (v, p, e))) :
    Calls Try.prog 99 #[.string s, .int .i64 at_] w (GotDone v p e w) := by
  unfold maxLen at hs
  by_cases hneg : at_ < 0
  · obtain ⟨rfl, rfl, rfl⟩ := getR_neg H.out hneg
    clear H
    go_enter Try.func99, Try.ntmps99
    go_wp2
    go_ret3
    exact ⟨rfl, Below.refl _ _⟩
  · obtain ⟨a, rfl⟩ := Int.eq_ofNat_of_zero_le (show 0 ≤ at_ by omega)
    go_enter Try.func99, Try.ntmps99
    go_wp2
    go_loop [7] (fun x => ∃ n : Nat, x = .int .i64 ((n : Int) + 1) ∧ n ≤ 10 ∧ (0 < n → a + n ≤ s.size) ∧ Hid (High s.data.toList a n)) (fun x => 20 - (intOf x).toNat)
    case atStart => exact ⟨0, rfl, by omega, by omega, Lib.hid (High.zero _ _)⟩
    case round =>
      obtain ⟨n, rfl, hn, hin, hH⟩ := hrel
      by_cases h10 : n = 10
      · rcases getR_of H.out (h10 ▸ hH.out : High s.data.toList a 10).ten with ⟨-, rfl, rfl, rfl⟩ | ⟨_, _, h, _⟩
        · clear H hH
          subst h10
          go_wp2
          go_ret3
          exact ⟨rfl, Below.refl _ _⟩
        · cases h
      by_cases hend : s.size < a + (n + 1)
      · have hg := hH.out.short (by simp; omega)
        rcases getR_of H.out hg with ⟨-, rfl, rfl, rfl⟩ | ⟨_, _, h, _⟩
        · clear H hH hg hin
          have hend2 : (s.size : Int) - ((n : Int) + 1) < (a : Int) := by omega
          have hn2 : (n : Int) + 1 ≤ 10 := by omega
          go_wp2
          go_ret3
          exact ⟨rfl, Below.refl _ _⟩
        · cases h
      have hlt : a + n < s.data.toList.length := by simp; omega
      obtain ⟨b, hb⟩ : ∃ b, s[a + n]'(by omega) = b := ⟨_, rfl⟩
      have hbL : s.data.toList[a + n] = b := by rw [← hb]; rfl
      have hend2 : ¬ (s.size : Int) - ((n : Int) + 1) < (a : Int) := by omega
      have hn2 : (n : Int) + 1 ≤ 10 := by omega
      have hw : (a : Int) + ((n : Int) + 1) - 1 = ((a + n : Nat) : Int) := by omega
      by_cases hlow : b.toNat < 128
      · have hga := get_first hH.out (by simp; omega) (by rw [hbL]; exact hlow) (by omega)
        obtain ⟨V, hV⟩ : ∃ V, sumUp s.data.toList a (n + 1) 0 = V := ⟨_, rfl⟩
        have hVlt : V < 18446744073709551616 := by rw [← hV]; unfold sumUp; omega
        rw [show val ((s.data.toList.drop a).take (n + 1)) % 18446744073709551616 = V from hV] at hga
        obtain ⟨t, ht⟩ : ∃ t, tx (enc V) = t := ⟨_, rfl⟩
        have hput := fun w => refPut_is V t w hVlt (Lib.hid ht)
        obtain ⟨x, hx⟩ : ∃ x, s.extract a (a + (n + 1)) = x := ⟨_, rfl⟩
        have hxt := extract_tx s a (n + 1)
        rw [hx] at hxt
        have hcase : (t = x ∧ v = (V : Int) ∧ p = (a : Int) + ((n : Int) + 1) ∧ e = 0) ∨ (¬ t = x ∧ v = 0 ∧ p = 0 ∧ e = 10) := by
          by_cases htx : enc V = (s.data.toList.drop a).take (n + 1)
          · rw [if_pos htx] at hga
            rcases getR_of H.out hga with ⟨h, _⟩ | ⟨u, m, h, h2, h3, h4⟩
            · cases h
            · simp at h
              obtain ⟨rfl, rfl⟩ := h
              exact Or.inl ⟨by rw [← ht, hxt, htx], h2, by rw [h3]; omega, h4⟩
          · rw [if_neg htx] at hga
            rcases getR_of H.out hga with ⟨_, h⟩ | ⟨u, m, h, _⟩
            · exact Or.inr ⟨fun e => htx (tx_inj (by rw [ht, e, hxt])), h⟩
            · cases h
        have HV := Lib.hid hV
        clear H hH hga ht hxt hV hbL hlt
        go_wp2
        go_loop [8, 9] (fun y k => ∃ j : Nat, j ≤ n + 1 ∧ k = .int .i64 ((j : Int) - 1) ∧ y = .int .u64 ((sumUp s.data.toList a (n + 1) j : Nat) : Int)) (fun _ k => (intOf k + 1).toNat)
        case atStart => exact ⟨n + 1, Nat.le_refl _, by simp, by rw [sumUp_end]; rfl⟩
        case round =>
          obtain ⟨j, hj, rfl, rfl⟩ := hrel
          cases j with
          | zero =>
            have hV := HV.out
            rw [hV]
            have e2 : IntKind.i64.wrap ((a : Int) + ((n : Int) + 1)) = (a : Int) + ((n : Int) + 1) := IntWalk.i64_in _ (by omega)
            have e3 : ((a : Int) + ((n : Int) + 1)).toNat = a + (n + 1) := by omega
            have e4 : (0 : Int) ≤ (a : Int) + ((n : Int) + 1) := by omega
            have e5 : (a : Int) ≤ (a : Int) + ((n : Int) + 1) := by omega
            have e6 : (a : Int) + ((n : Int) + 1) ≤ (s.size : Int) := by omega
            clear hw HV hV hb hlow hn2 hend2 hin hn h10 hend
            rcases hcase with ⟨rfl, rfl, rfl, rfl⟩ | ⟨hne, rfl, rfl, rfl⟩
            · go_wp2_with fail
              refine wp_region_held_drew (S := (fun w' => Below w.heap.size w w')) (by kernel_rfl) (Below.refl _ _).drew (fun hHeld => ?_)
              refine wpAnyH_take (i := 0) (oi := ?zao0) (v := ?zav0) ?zah0 (by kernel_rfl) (by kernel_rfl) (by kernel_rfl) ?zaq0 ?zay0 hHeld ?zar0
              case zah0 => (simp only [List.getElem?_toArray, List.getElem?_cons_zero]; rfl)
              case zaq0 => exact fun _ _ _ h => h
              case zay0 => (refine Or.inl ⟨by first | kernel_rfl | rfl, ?_⟩; intro w hSw; (try dsimp only at hSw); go_simp <;> (try with_reducible rfl))
              try simp only [Act.put, List.setIfInBounds_toArray, List.set_cons_zero, List.set_cons_succ]
              refine wpAnyH_take (i := 2) (oi := ?zao2) (v := ?zav2) ?zah2 (by kernel_rfl) (by kernel_rfl) (by kernel_rfl) ?zaq2 ?zay2 hHeld ?zar2
              case zah2 => (simp only [List.getElem?_toArray, List.getElem?_cons_succ, List.getElem?_cons_zero]; rfl)
              case zaq2 => exact fun _ _ _ h => h
              case zay2 => (refine Or.inl ⟨by first | kernel_rfl | rfl, ?_⟩; intro w hSw; (try dsimp only at hSw); go_simp <;> (try with_reducible rfl))
              try simp only [Act.put, List.setIfInBounds_toArray, List.set_cons_zero, List.set_cons_succ]
              refine wpAnyH_take (i := 3) (oi := ?zao3) (v := ?zav3) ?zah3 (by kernel_rfl) (by kernel_rfl) (by kernel_rfl) ?zaq3 ?zay3 hHeld ?zar3
              case zah3 => (simp only [List.getElem?_toArray, List.getElem?_cons_succ, List.getElem?_cons_zero]; rfl)
              case zaq3 => exact fun _ _ _ h => h
              case zay3 => (refine Or.inl ⟨by first | kernel_rfl | rfl, ?_⟩; intro w hSw; (try dsimp only at hSw); go_simp <;> (try with_reducible rfl))
              try simp only [Act.put, List.setIfInBounds_toArray, List.set_cons_zero, List.set_cons_succ]
              refine wpAnyH_take (i := 4) (oi := ?zao4) (v := ?zav4) ?zah4 (by kernel_rfl) (by kernel_rfl) (by kernel_rfl) ?zaq4 ?zay4 hHeld ?zar4
              case zah4 => (simp only [List.getElem?_toArray, List.getElem?_cons_succ, List.getElem?_cons_zero]; rfl)
              case zaq4 => exact fun _ _ _ h => h
              case zay4 => (refine Or.inl ⟨by first | kernel_rfl | rfl, ?_⟩; intro w hSw; (try dsimp only at hSw); go_simp <;> (try with_reducible rfl))
              try simp only [Act.put, List.setIfInBounds_toArray, List.set_cons_zero, List.set_cons_succ]
              refine wpAnyH_take (i := 5) (oi := ?zao5) (v := ?zav5) ?zah5 (by kernel_rfl) (by kernel_rfl) (by kernel_rfl) ?zaq5 ?zay5 hHeld ?zar5
              case zah5 => (simp only [List.getElem?_toArray, List.getElem?_cons_succ, List.getElem?_cons_zero]; rfl)
              case zaq5 => exact fun _ _ _ h => h
              case zay5 => (refine Or.inl ⟨by first | kernel_rfl | rfl, ?_⟩; intro w hSw; (try dsimp only at hSw); go_simp <;> (try with_reducible rfl))
              try simp only [Act.put, List.setIfInBounds_toArray, List.set_cons_zero, List.set_cons_succ]
              refine wpAnyH_take (i := 6) (oi := ?zao6) (v := ?zav6) ?zah6 (by kernel_rfl) (by kernel_rfl) (by kernel_rfl) ?zaq6 ?zay6 hHeld ?zar6
              case zah6 => (simp only [List.getElem?_toArray, List.getElem?_cons_succ, List.getElem?_cons_zero]; rfl)
              case zaq6 => exact fun _ _ _ h => h
              case zay6 => (refine Or.inl ⟨by first | kernel_rfl | rfl, ?_⟩; intro w hSw; (try dsimp only at hSw); go_simp <;> (try with_reducible rfl))
              try simp only [Act.put, List.setIfInBounds_toArray, List.set_cons_zero, List.set_cons_succ]
              refine wpAnyH_take (i := 7) (oi := ?zao7) (v := ?zav7) ?zah7 (by kernel_rfl) (by kernel_rfl) (by kernel_rfl) ?zaq7 ?zay7 hHeld ?zar7
              case zah7 => (simp only [List.getElem?_toArray, List.getElem?_cons_succ, List.getElem?_cons_zero]; rfl)
              case zaq7 => exact fun _ _ _ h => h
              case zay7 => (refine Or.inl ⟨by first | kernel_rfl | rfl, ?_⟩; intro w hSw; (try dsimp only at hSw); go_simp <;> (try with_reducible rfl))
              try simp only [Act.put, List.setIfInBounds_toArray, List.set_cons_zero, List.set_cons_succ]
              refine wpAnyH_ready (rs := [1]) (by kernel_rfl) (by simp) ?_
              refine AllReadyH.cons rfl (fun K hK => ?_) AllReadyH.nil
              go_simp
              ((with_reducible refine (hput _).mono ?_); rintro e w' ⟨rfl, hb'⟩)
              refine hK.out _ _ (hHeld.trans (hb'.mono hHeld.size)) (fun hHeld => ?_)
              clear hK K
              try simp only [Act.put, List.setIfInBounds_toArray, List.set_cons_zero, List.set_cons_succ]
              refine wpAnyH_take (i := 8) (oi := ?zao8) (v := ?zav8) ?zah8 (by kernel_rfl) (by kernel_rfl) (by kernel_rfl) ?zaq8 ?zay8 hHeld ?zar8
              case zah8 => (simp only [List.getElem?_toArray, List.getElem?_cons_succ, List.getElem?_cons_zero]; rfl)
              case zaq8 => exact fun _ _ _ h => h
              case zay8 => (refine Or.inl ⟨by first | kernel_rfl | rfl, ?_⟩; intro w hSw; (try dsimp only at hSw); go_simp <;> (try with_reducible rfl))
              try simp only [Act.put, List.setIfInBounds_toArray, List.set_cons_zero, List.set_cons_succ]
              refine wpAnyH_done (by kernel_rfl) ?_ _
              go_wp2
              go_ret3
              exact ⟨rfl, hHeld⟩
            · have hne2 := str_ne hne
              go_wp2_with fail
              refine wp_region_held_drew (S := (fun w' => Below w.heap.size w w')) (by kernel_rfl) (Below.refl _ _).drew (fun hHeld => ?_)
              refine wpAnyH_take (i := 0) (oi := ?zbo0) (v := ?zbv0) ?zbh0 (by kernel_rfl) (by kernel_rfl) (by kernel_rfl) ?zbq0 ?zby0 hHeld ?zbr0
              case zbh0 => (simp only [List.getElem?_toArray, List.getElem?_cons_zero]; rfl)
              case zbq0 => exact fun _ _ _ h => h
              case zby0 => (refine Or.inl ⟨by first | kernel_rfl | rfl, ?_⟩; intro w hSw; (try dsimp only at hSw); go_simp <;> (try with_reducible rfl))
              try simp only [Act.put, List.setIfInBounds_toArray, List.set_cons_zero, List.set_cons_succ]
              refine wpAnyH_take (i := 2) (oi := ?zbo2) (v := ?zbv2) ?zbh2 (by kernel_rfl) (by kernel_rfl) (by kernel_rfl) ?zbq2 ?zby2 hHeld ?zbr2
              case zbh2 => (simp only [List.getElem?_toArray, List.getElem?_cons_succ, List.getElem?_cons_zero]; rfl)
              case zbq2 => exact fun _ _ _ h => h
              case zby2 => (refine Or.inl ⟨by first | kernel_rfl | rfl, ?_⟩; intro w hSw; (try dsimp only at hSw); go_simp <;> (try with_reducible rfl))
              try simp only [Act.put, List.setIfInBounds_toArray, List.set_cons_zero, List.set_cons_succ]
              refine wpAnyH_take (i := 3) (oi := ?zbo3) (v := ?zbv3) ?zbh3 (by kernel_rfl) (by kernel_rfl) (by kernel_rfl) ?zbq3 ?zby3 hHeld ?zbr3
              case zbh3 => (simp only [List.getElem?_toArray, List.getElem?_cons_succ, List.getElem?_cons_zero]; rfl)
              case zbq3 => exact fun _ _ _ h => h
              case zby3 => (refine Or.inl ⟨by first | kernel_rfl | rfl, ?_⟩; intro w hSw; (try dsimp only at hSw); go_simp <;> (try with_reducible rfl))
              try simp only [Act.put, List.setIfInBounds_toArray, List.set_cons_zero, List.set_cons_succ]
              refine wpAnyH_take (i := 4) (oi := ?zbo4) (v := ?zbv4) ?zbh4 (by kernel_rfl) (by kernel_rfl) (by kernel_rfl) ?zbq4 ?zby4 hHeld ?zbr4
              case zbh4 => (simp only [List.getElem?_toArray, List.getElem?_cons_succ, List.getElem?_cons_zero]; rfl)
              case zbq4 => exact fun _ _ _ h => h
              case zby4 => (refine Or.inl ⟨by first | kernel_rfl | rfl, ?_⟩; intro w hSw; (try dsimp only at hSw); go_simp <;> (try with_reducible rfl))
              try simp only [Act.put, List.setIfInBounds_toArray, List.set_cons_zero, List.set_cons_succ]
              refine wpAnyH_take (i := 5) (oi := ?zbo5) (v := ?zbv5) ?zbh5 (by kernel_rfl) (by kernel_rfl) (by kernel_rfl) ?zbq5 ?zby5 hHeld ?zbr5
              case zbh5 => (simp only [List.getElem?_toArray, List.getElem?_cons_succ, List.getElem?_cons_zero]; rfl)
              case zbq5 => exact fun _ _ _ h => h
              case zby5 => (refine Or.inl ⟨by first | kernel_rfl | rfl, ?_⟩; intro w hSw; (try dsimp only at hSw); go_simp <;> (try with_reducible rfl))
              try simp only [Act.put, List.setIfInBounds_toArray, List.set_cons_zero, List.set_cons_succ]
              refine wpAnyH_take (i := 6) (oi := ?zbo6) (v := ?zbv6) ?zbh6 (by kernel_rfl) (by kernel_rfl) (by kernel_rfl) ?zbq6 ?zby6 hHeld ?zbr6
              case zbh6 => (simp only [List.getElem?_toArray, List.getElem?_cons_succ, List.getElem?_cons_zero]; rfl)
              case zbq6 => exact fun _ _ _ h => h
              case zby6 => (refine Or.inl ⟨by first | kernel_rfl | rfl, ?_⟩; intro w hSw; (try dsimp only at hSw); go_simp <;> (try with_reducible rfl))
              try simp only [Act.put, List.setIfInBounds_toArray, List.set_cons_zero, List.set_cons_succ]
              refine wpAnyH_take (i := 7) (oi := ?zbo7) (v := ?zbv7) ?zbh7 (by kernel_rfl) (by kernel_rfl) (by kernel_rfl) ?zbq7 ?zby7 hHeld ?zbr7
              case zbh7 => (simp only [List.getElem?_toArray, List.getElem?_cons_succ, List.getElem?_cons_zero]; rfl)
              case zbq7 => exact fun _ _ _ h => h
              case zby7 => (refine Or.inl ⟨by first | kernel_rfl | rfl, ?_⟩; intro w hSw; (try dsimp only at hSw); go_simp <;> (try with_reducible rfl))
              try simp only [Act.put, List.setIfInBounds_toArray, List.set_cons_zero, List.set_cons_succ]
              refine wpAnyH_ready (rs := [1]) (by kernel_rfl) (by simp) ?_
              refine AllReadyH.cons rfl (fun K hK => ?_) AllReadyH.nil
              go_simp
              ((with_reducible refine (hput _).mono ?_); rintro e w' ⟨rfl, hb'⟩)
              refine hK.out _ _ (hHeld.trans (hb'.mono hHeld.size)) (fun hHeld => ?_)
              clear hK K
              try simp only [Act.put, List.setIfInBounds_toArray, List.set_cons_zero, List.set_cons_succ]
              refine wpAnyH_take (i := 8) (oi := ?zbo8) (v := ?zbv8) ?zbh8 (by kernel_rfl) (by kernel_rfl) (by kernel_rfl) ?zbq8 ?zby8 hHeld ?zbr8
              case zbh8 => (simp only [List.getElem?_toArray, List.getElem?_cons_succ, List.getElem?_cons_zero]; rfl)
              case zbq8 => exact fun _ _ _ h => h
              case zby8 => (refine Or.inl ⟨by first | kernel_rfl | rfl, ?_⟩; intro w hSw; (try dsimp only at hSw); go_simp <;> (try with_reducible rfl))
              try simp only [Act.put, List.setIfInBounds_toArray, List.set_cons_zero, List.set_cons_succ]
              refine wpAnyH_done (by kernel_rfl) ?_ _
              go_wp2
              go_ret3
              exact ⟨rfl, hHeld⟩
          | succ i =>
            have e1 : ((i + 1 : Nat) : Int) - 1 = (i : Int) := by omega
            rw [e1]
            have hstep := sumUp_step (l := s.data.toList) (a := a) (n := n + 1) (j := i) (by simp; omega) (by omega)
            obtain ⟨c, hc⟩ : ∃ c, s[a + i]'(by omega) = c := ⟨_, rfl⟩
            rw [show s.data.toList[a + i]'(by simp; omega) = c from hc] at hstep
            obtain ⟨y, hy⟩ : ∃ y, sumUp s.data.toList a (n + 1) (i + 1) = y := ⟨_, rfl⟩
            rw [hy] at hstep ⊢
            have HS := Lib.hid hstep
            clear hstep hy hcase hput HV
            go_wp2
            go_round
            case rel => exact ⟨i, by omega, rfl, by rw [← HS.out, IntKind.wrap_u64, IntKind.wrap_u64]; congr 1; omega⟩
            case measure => simp [intOf]
      · have HN := Lib.hid (hH.out.succ (fun h => by rw [hbL]; omega))
        have h5 : (128 : Int) ≤ (b.toNat : Int) := by omega
        clear H hH hlow hbL
        go_wp2
        go_round
        case rel => exact ⟨n + 1, by go_num, by omega, by omega, HN⟩
        case measure => simp [intOf]; omega
end Go.Proofs.Ytjckphmkhikpaaa

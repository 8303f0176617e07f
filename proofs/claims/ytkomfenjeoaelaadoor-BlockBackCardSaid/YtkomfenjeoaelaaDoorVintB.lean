/- Joined: VintRefGet, VintReader, VintClone, VintMeth, VintSmall, VintRefRd, VintRefMeth. -/
import Derived.Test.YtkomfenjeoaelaaDoorVintA
import Derived.Deep.RegionHeld3
import Derived.Deep.QuietTactic
import Derived.BigQuiet
import Derived.Lib.Strings
import Derived.Lib.Walk
import Derived.Lib.BufferWrite
import Derived.Lib.UnsafeStr
import Derived.Laws.MakeOwn
import Derived.Laws.AppendOwn
import Derived.Below
/- The contract of the document's Get. -/
namespace Go.Proofs.YtkomfenjeoaelaaDoor
open Go.RowKit Go.Proofs.YtkomfenjeoaelaaDoor.Vi

/-- The digits of a text from a place on, the last n - j of n, as the document's loop sums them up. -/
def sumUp (l : List UInt8) (a n j : Nat) : Nat := val ((l.drop (a + j)).take (n - j)) % 18446744073709551616
theorem sumUp_end (l : List UInt8) (a n : Nat) : sumUp l a n n = 0 := by unfold sumUp; simp [val]
theorem sumUp_step {l : List UInt8} {a n j : Nat} (h : a + j < l.length) (hj : j < n) : ((l[a + j]).toNat % 128 + 128 * sumUp l a n (j + 1)) % 18446744073709551616 = sumUp l a n j := by
  unfold sumUp
  rw [show l.drop (a + j) = l[a + j] :: l.drop (a + (j + 1)) from List.drop_eq_getElem_cons h, show n - j = (n - (j + 1)) + 1 by omega, List.take_succ_cons]
  show _ = ((l[a + j]).toNat % 128 + 128 * val _) % _
  omega
theorem getR_of {l : List UInt8} {a : Nat} {v p e : Int} (h : getR l (a : Int) = (v, p, e)) {o : Option (Nat × Nat)} (ho : getL 0 (l.drop a) = o) :
    (o = none ∧ v = 0 ∧ p = 0 ∧ e = 10) ∨ ∃ u m : Nat, o = some (u, m) ∧ v = (u : Int) ∧ p = (a : Int) + (m : Int) ∧ e = 0 := by
  unfold getR at h
  rw [if_neg (by omega), Int.toNat_natCast, ho] at h
  cases o with
  | none => left; simpa [eq_comm] using h
  | some x =>
    right
    simp at h
    obtain ⟨rfl, rfl, rfl⟩ := h
    exact ⟨x.1, x.2, rfl, rfl, rfl, rfl⟩
/-- What the document's Get leaves. -/
def GotDone (v p e : Int) (w : World) (r : Ending) (w' : World) : Prop := r = .returned (.tuple #[.int .u64 v, .int .i64 p, .int .i64 e]) ∧ Below w.heap.size w w'
theorem extract_tx (s : ByteArray) (a n : Nat) : s.extract a (a + n) = tx ((s.data.toList.drop a).take n) := by
  apply ByteArray.ext
  apply Array.toList_inj.1
  simp [tx, ByteArray.data_extract]
theorem str_ne {a b : ByteArray} (h : ¬ a = b) : (a.toList == b.toList) = false := by
  rw [ByteArray.toList_eq, ByteArray.toList_eq]
  apply Bool.eq_false_iff.2
  intro e
  exact h (ByteArray.ext (Array.toList_inj.1 (eq_of_beq e)))

set_option maxRecDepth 20000 in
set_option maxHeartbeats 4000000 in
theorem refGet_is (s : ByteArray) (at_ v p e : Int) (w : World) (hs : s.size ≤ maxLen) (ha0 : -9223372036854775808 ≤ at_) (ha1 : at_ ≤ 9223372036854775807) (H : Hid (getR s.data.toList at_ = (v, p, e))) :
    Calls Tryd.prog 108 #[.string s, .int .i64 at_] w (GotDone v p e w) := by
  unfold maxLen at hs
  by_cases hneg : at_ < 0
  · obtain ⟨rfl, rfl, rfl⟩ := getR_neg H.out hneg
    clear H
    go_enter Tryd.func108, Tryd.ntmps108
    go_wp2
    go_ret3
    exact ⟨rfl, Below.refl _ _⟩
  · obtain ⟨a, rfl⟩ := Int.eq_ofNat_of_zero_le (show 0 ≤ at_ by omega)
    go_enter Tryd.func108, Tryd.ntmps108
    go_wp2
    go_loop [7] (fun x => ∃ n : Nat, x = .int .i64 ((n : Int) + 1) ∧ n ≤ 10 ∧ (0 < n → a + n ≤ s.size) ∧ Hid (High s.data.toList a n)) (fun x => 20 - (intOf x).toNat)
    case atStart => exact ⟨0, rfl, by omega, by omega, Lib.hid (High.zero _ _)⟩
    case round =>
      obtain ⟨n, rfl, hn, hin, hH⟩ := hrel
      by_cases h10 : n = 10
      · rcases getR_of H.out (h10 ▸ hH.out : High s.data.toList a 10).ten with ⟨-, rfl, rfl, rfl⟩ | ⟨_, _, h, _⟩
        · clear H hH
          subst h10
          go_wp2
          go_ret3
          exact ⟨rfl, Below.refl _ _⟩
        · cases h
      by_cases hend : s.size < a + (n + 1)
      · have hg := hH.out.short (by simp; omega)
        rcases getR_of H.out hg with ⟨-, rfl, rfl, rfl⟩ | ⟨_, _, h, _⟩
        · clear H hH hg hin
          have hend2 : (s.size : Int) - ((n : Int) + 1) < (a : Int) := by omega
          have hn2 : (n : Int) + 1 ≤ 10 := by omega
          go_wp2
          go_ret3
          exact ⟨rfl, Below.refl _ _⟩
        · cases h
      have hlt : a + n < s.data.toList.length := by simp; omega
      obtain ⟨b, hb⟩ : ∃ b, s[a + n]'(by omega) = b := ⟨_, rfl⟩
      have hbL : s.data.toList[a + n] = b := by rw [← hb]; rfl
      have hend2 : ¬ (s.size : Int) - ((n : Int) + 1) < (a : Int) := by omega
      have hn2 : (n : Int) + 1 ≤ 10 := by omega
      have hw : (a : Int) + ((n : Int) + 1) - 1 = ((a + n : Nat) : Int) := by omega
      by_cases hlow : b.toNat < 128
      · have hga := get_first hH.out (by simp; omega) (by rw [hbL]; exact hlow) (by omega)
        obtain ⟨V, hV⟩ : ∃ V, sumUp s.data.toList a (n + 1) 0 = V := ⟨_, rfl⟩
        have hVlt : V < 18446744073709551616 := by rw [← hV]; unfold sumUp; omega
        rw [show val ((s.data.toList.drop a).take (n + 1)) % 18446744073709551616 = V from hV] at hga
        obtain ⟨t, ht⟩ : ∃ t, tx (enc V) = t := ⟨_, rfl⟩
        have hput := fun w => refPut_is V t w hVlt (Lib.hid ht)
        obtain ⟨x, hx⟩ : ∃ x, s.extract a (a + (n + 1)) = x := ⟨_, rfl⟩
        have hxt := extract_tx s a (n + 1)
        rw [hx] at hxt
        have hcase : (t = x ∧ v = (V : Int) ∧ p = (a : Int) + ((n : Int) + 1) ∧ e = 0) ∨ (¬ t = x ∧ v = 0 ∧ p = 0 ∧ e = 10) := by
          by_cases htx : enc V = (s.data.toList.drop a).take (n + 1)
          · rw [if_pos htx] at hga
            rcases getR_of H.out hga with ⟨h, _⟩ | ⟨u, m, h, h2, h3, h4⟩
            · cases h
            · simp at h
              obtain ⟨rfl, rfl⟩ := h
              exact Or.inl ⟨by rw [← ht, hxt, htx], h2, by rw [h3]; omega, h4⟩
          · rw [if_neg htx] at hga
            rcases getR_of H.out hga with ⟨_, h⟩ | ⟨u, m, h, _⟩
            · exact Or.inr ⟨fun e => htx (tx_inj (by rw [ht, e, hxt])), h⟩
            · cases h
        have HV := Lib.hid hV
        clear H hH hga ht hxt hV hbL hlt
        go_wp2
        go_loop [8, 9] (fun y k => ∃ j : Nat, j ≤ n + 1 ∧ k = .int .i64 ((j : Int) - 1) ∧ y = .int .u64 ((sumUp s.data.toList a (n + 1) j : Nat) : Int)) (fun _ k => (intOf k + 1).toNat)
        case atStart => exact ⟨n + 1, Nat.le_refl _, by simp, by rw [sumUp_end]; rfl⟩
        case round =>
          obtain ⟨j, hj, rfl, rfl⟩ := hrel
          cases j with
          | zero =>
            have hV := HV.out
            rw [hV]
            have e2 : IntKind.i64.wrap ((a : Int) + ((n : Int) + 1)) = (a : Int) + ((n : Int) + 1) := IntWalk.i64_in _ (by omega)
            have e3 : ((a : Int) + ((n : Int) + 1)).toNat = a + (n + 1) := by omega
            have e4 : (0 : Int) ≤ (a : Int) + ((n : Int) + 1) := by omega
            have e5 : (a : Int) ≤ (a : Int) + ((n : Int) + 1) := by omega
            have e6 : (a : Int) + ((n : Int) + 1) ≤ (s.size : Int) := by omega
            clear hw HV hV hb hlow hn2 hend2 hin hn h10 hend
            rcases hcase with ⟨rfl, rfl, rfl, rfl⟩ | ⟨hne, rfl, rfl, rfl⟩
            · go_wp2_with fail
              refine wp_region_held_drew (S := (fun w' => Below w.heap.size w w')) (by kernel_rfl) (Below.refl _ _).drew (fun hHeld => ?_)
              refine wpAnyH_take (i := 0) (oi := ?zao0) (v := ?zav0) ?zah0 (by kernel_rfl) (by kernel_rfl) (by kernel_rfl) ?zaq0 ?zay0 hHeld ?zar0
              case zah0 => (simp only [List.getElem?_toArray, List.getElem?_cons_zero]; rfl)
              case zaq0 => exact fun _ _ _ h => h
              case zay0 => (refine Or.inl ⟨by first | kernel_rfl | rfl, ?_⟩; intro w hSw; (try dsimp only at hSw); go_simp <;> (try with_reducible rfl))
              try simp only [Act.put, List.setIfInBounds_toArray, List.set_cons_zero, List.set_cons_succ]
              refine wpAnyH_take (i := 2) (oi := ?zao2) (v := ?zav2) ?zah2 (by kernel_rfl) (by kernel_rfl) (by kernel_rfl) ?zaq2 ?zay2 hHeld ?zar2
              case zah2 => (simp only [List.getElem?_toArray, List.getElem?_cons_succ, List.getElem?_cons_zero]; rfl)
              case zaq2 => exact fun _ _ _ h => h
              case zay2 => (refine Or.inl ⟨by first | kernel_rfl | rfl, ?_⟩; intro w hSw; (try dsimp only at hSw); go_simp <;> (try with_reducible rfl))
              try simp only [Act.put, List.setIfInBounds_toArray, List.set_cons_zero, List.set_cons_succ]
              refine wpAnyH_take (i := 3) (oi := ?zao3) (v := ?zav3) ?zah3 (by kernel_rfl) (by kernel_rfl) (by kernel_rfl) ?zaq3 ?zay3 hHeld ?zar3
              case zah3 => (simp only [List.getElem?_toArray, List.getElem?_cons_succ, List.getElem?_cons_zero]; rfl)
              case zaq3 => exact fun _ _ _ h => h
              case zay3 => (refine Or.inl ⟨by first | kernel_rfl | rfl, ?_⟩; intro w hSw; (try dsimp only at hSw); go_simp <;> (try with_reducible rfl))
              try simp only [Act.put, List.setIfInBounds_toArray, List.set_cons_zero, List.set_cons_succ]
              refine wpAnyH_take (i := 4) (oi := ?zao4) (v := ?zav4) ?zah4 (by kernel_rfl) (by kernel_rfl) (by kernel_rfl) ?zaq4 ?zay4 hHeld ?zar4
              case zah4 => (simp only [List.getElem?_toArray, List.getElem?_cons_succ, List.getElem?_cons_zero]; rfl)
              case zaq4 => exact fun _ _ _ h => h
              case zay4 => (refine Or.inl ⟨by first | kernel_rfl | rfl, ?_⟩; intro w hSw; (try dsimp only at hSw); go_simp <;> (try with_reducible rfl))
              try simp only [Act.put, List.setIfInBounds_toArray, List.set_cons_zero, List.set_cons_succ]
              refine wpAnyH_take (i := 5) (oi := ?zao5) (v := ?zav5) ?zah5 (by kernel_rfl) (by kernel_rfl) (by kernel_rfl) ?zaq5 ?zay5 hHeld ?zar5
              case zah5 => (simp only [List.getElem?_toArray, List.getElem?_cons_succ, List.getElem?_cons_zero]; rfl)
              case zaq5 => exact fun _ _ _ h => h
              case zay5 => (refine Or.inl ⟨by first | kernel_rfl | rfl, ?_⟩; intro w hSw; (try dsimp only at hSw); go_simp <;> (try with_reducible rfl))
              try simp only [Act.put, List.setIfInBounds_toArray, List.set_cons_zero, List.set_cons_succ]
              refine wpAnyH_take (i := 6) (oi := ?zao6) (v := ?zav6) ?zah6 (by kernel_rfl) (by kernel_rfl) (by kernel_rfl) ?zaq6 ?zay6 hHeld ?zar6
              case zah6 => (simp only [List.getElem?_toArray, List.getElem?_cons_succ, List.getElem?_cons_zero]; rfl)
              case zaq6 => exact fun _ _ _ h => h
              case zay6 => (refine Or.inl ⟨by first | kernel_rfl | rfl, ?_⟩; intro w hSw; (try dsimp only at hSw); go_simp <;> (try with_reducible rfl))
              try simp only [Act.put, List.setIfInBounds_toArray, List.set_cons_zero, List.set_cons_succ]
              refine wpAnyH_take (i := 7) (oi := ?zao7) (v := ?zav7) ?zah7 (by kernel_rfl) (by kernel_rfl) (by kernel_rfl) ?zaq7 ?zay7 hHeld ?zar7
              case zah7 => (simp only [List.getElem?_toArray, List.getElem?_cons_succ, List.getElem?_cons_zero]; rfl)
              case zaq7 => exact fun _ _ _ h => h
              case zay7 => (refine Or.inl ⟨by first | kernel_rfl | rfl, ?_⟩; intro w hSw; (try dsimp only at hSw); go_simp <;> (try with_reducible rfl))
              try simp only [Act.put, List.setIfInBounds_toArray, List.set_cons_zero, List.set_cons_succ]
              refine wpAnyH_ready (rs := [1]) (by kernel_rfl) (by simp) ?_
              refine AllReadyH.cons rfl (fun K hK => ?_) AllReadyH.nil
              go_simp
              ((with_reducible refine (hput _).mono ?_); rintro e w' ⟨rfl, hb'⟩)
              refine hK.out _ _ (hHeld.trans (hb'.mono hHeld.size)) (fun hHeld => ?_)
              clear hK K
              try simp only [Act.put, List.setIfInBounds_toArray, List.set_cons_zero, List.set_cons_succ]
              refine wpAnyH_take (i := 8) (oi := ?zao8) (v := ?zav8) ?zah8 (by kernel_rfl) (by kernel_rfl) (by kernel_rfl) ?zaq8 ?zay8 hHeld ?zar8
              case zah8 => (simp only [List.getElem?_toArray, List.getElem?_cons_succ, List.getElem?_cons_zero]; rfl)
              case zaq8 => exact fun _ _ _ h => h
              case zay8 => (refine Or.inl ⟨by first | kernel_rfl | rfl, ?_⟩; intro w hSw; (try dsimp only at hSw); go_simp <;> (try with_reducible rfl))
              try simp only [Act.put, List.setIfInBounds_toArray, List.set_cons_zero, List.set_cons_succ]
              refine wpAnyH_done (by kernel_rfl) ?_ _
              go_wp2
              go_ret3
              exact ⟨rfl, hHeld⟩
            · have hne2 := str_ne hne
              go_wp2_with fail
              refine wp_region_held_drew (S := (fun w' => Below w.heap.size w w')) (by kernel_rfl) (Below.refl _ _).drew (fun hHeld => ?_)
              refine wpAnyH_take (i := 0) (oi := ?zbo0) (v := ?zbv0) ?zbh0 (by kernel_rfl) (by kernel_rfl) (by kernel_rfl) ?zbq0 ?zby0 hHeld ?zbr0
              case zbh0 => (simp only [List.getElem?_toArray, List.getElem?_cons_zero]; rfl)
              case zbq0 => exact fun _ _ _ h => h
              case zby0 => (refine Or.inl ⟨by first | kernel_rfl | rfl, ?_⟩; intro w hSw; (try dsimp only at hSw); go_simp <;> (try with_reducible rfl))
              try simp only [Act.put, List.setIfInBounds_toArray, List.set_cons_zero, List.set_cons_succ]
              refine wpAnyH_take (i := 2) (oi := ?zbo2) (v := ?zbv2) ?zbh2 (by kernel_rfl) (by kernel_rfl) (by kernel_rfl) ?zbq2 ?zby2 hHeld ?zbr2
              case zbh2 => (simp only [List.getElem?_toArray, List.getElem?_cons_succ, List.getElem?_cons_zero]; rfl)
              case zbq2 => exact fun _ _ _ h => h
              case zby2 => (refine Or.inl ⟨by first | kernel_rfl | rfl, ?_⟩; intro w hSw; (try dsimp only at hSw); go_simp <;> (try with_reducible rfl))
              try simp only [Act.put, List.setIfInBounds_toArray, List.set_cons_zero, List.set_cons_succ]
              refine wpAnyH_take (i := 3) (oi := ?zbo3) (v := ?zbv3) ?zbh3 (by kernel_rfl) (by kernel_rfl) (by kernel_rfl) ?zbq3 ?zby3 hHeld ?zbr3
              case zbh3 => (simp only [List.getElem?_toArray, List.getElem?_cons_succ, List.getElem?_cons_zero]; rfl)
              case zbq3 => exact fun _ _ _ h => h
              case zby3 => (refine Or.inl ⟨by first | kernel_rfl | rfl, ?_⟩; intro w hSw; (try dsimp only at hSw); go_simp <;> (try with_reducible rfl))
              try simp only [Act.put, List.setIfInBounds_toArray, List.set_cons_zero, List.set_cons_succ]
              refine wpAnyH_take (i := 4) (oi := ?zbo4) (v := ?zbv4) ?zbh4 (by kernel_rfl) (by kernel_rfl) (by kernel_rfl) ?zbq4 ?zby4 hHeld ?zbr4
              case zbh4 => (simp only [List.getElem?_toArray, List.getElem?_cons_succ, List.getElem?_cons_zero]; rfl)
              case zbq4 => exact fun _ _ _ h => h
              case zby4 => (refine Or.inl ⟨by first | kernel_rfl | rfl, ?_⟩; intro w hSw; (try dsimp only at hSw); go_simp <;> (try with_reducible rfl))
              try simp only [Act.put, List.setIfInBounds_toArray, List.set_cons_zero, List.set_cons_succ]
              refine wpAnyH_take (i := 5) (oi := ?zbo5) (v := ?zbv5) ?zbh5 (by kernel_rfl) (by kernel_rfl) (by kernel_rfl) ?zbq5 ?zby5 hHeld ?zbr5
              case zbh5 => (simp only [List.getElem?_toArray, List.getElem?_cons_succ, List.getElem?_cons_zero]; rfl)
              case zbq5 => exact fun _ _ _ h => h
              case zby5 => (refine Or.inl ⟨by first | kernel_rfl | rfl, ?_⟩; intro w hSw; (try dsimp only at hSw); go_simp <;> (try with_reducible rfl))
              try simp only [Act.put, List.setIfInBounds_toArray, List.set_cons_zero, List.set_cons_succ]
              refine wpAnyH_take (i := 6) (oi := ?zbo6) (v := ?zbv6) ?zbh6 (by kernel_rfl) (by kernel_rfl) (by kernel_rfl) ?zbq6 ?zby6 hHeld ?zbr6
              case zbh6 => (simp only [List.getElem?_toArray, List.getElem?_cons_succ, List.getElem?_cons_zero]; rfl)
              case zbq6 => exact fun _ _ _ h => h
              case zby6 => (refine Or.inl ⟨by first | kernel_rfl | rfl, ?_⟩; intro w hSw; (try dsimp only at hSw); go_simp <;> (try with_reducible rfl))
              try simp only [Act.put, List.setIfInBounds_toArray, List.set_cons_zero, List.set_cons_succ]
              refine wpAnyH_take (i := 7) (oi := ?zbo7) (v := ?zbv7) ?zbh7 (by kernel_rfl) (by kernel_rfl) (by kernel_rfl) ?zbq7 ?zby7 hHeld ?zbr7
              case zbh7 => (simp only [List.getElem?_toArray, List.getElem?_cons_succ, List.getElem?_cons_zero]; rfl)
              case zbq7 => exact fun _ _ _ h => h
              case zby7 => (refine Or.inl ⟨by first | kernel_rfl | rfl, ?_⟩; intro w hSw; (try dsimp only at hSw); go_simp <;> (try with_reducible rfl))
              try simp only [Act.put, List.setIfInBounds_toArray, List.set_cons_zero, List.set_cons_succ]
              refine wpAnyH_ready (rs := [1]) (by kernel_rfl) (by simp) ?_
              refine AllReadyH.cons rfl (fun K hK => ?_) AllReadyH.nil
              go_simp
              ((with_reducible refine (hput _).mono ?_); rintro e w' ⟨rfl, hb'⟩)
              refine hK.out _ _ (hHeld.trans (hb'.mono hHeld.size)) (fun hHeld => ?_)
              clear hK K
              try simp only [Act.put, List.setIfInBounds_toArray, List.set_cons_zero, List.set_cons_succ]
              refine wpAnyH_take (i := 8) (oi := ?zbo8) (v := ?zbv8) ?zbh8 (by kernel_rfl) (by kernel_rfl) (by kernel_rfl) ?zbq8 ?zby8 hHeld ?zbr8
              case zbh8 => (simp only [List.getElem?_toArray, List.getElem?_cons_succ, List.getElem?_cons_zero]; rfl)
              case zbq8 => exact fun _ _ _ h => h
              case zby8 => (refine Or.inl ⟨by first | kernel_rfl | rfl, ?_⟩; intro w hSw; (try dsimp only at hSw); go_simp <;> (try with_reducible rfl))
              try simp only [Act.put, List.setIfInBounds_toArray, List.set_cons_zero, List.set_cons_succ]
              refine wpAnyH_done (by kernel_rfl) ?_ _
              go_wp2
              go_ret3
              exact ⟨rfl, hHeld⟩
          | succ i =>
            have e1 : ((i + 1 : Nat) : Int) - 1 = (i : Int) := by omega
            rw [e1]
            have hstep := sumUp_step (l := s.data.toList) (a := a) (n := n + 1) (j := i) (by simp; omega) (by omega)
            obtain ⟨c, hc⟩ : ∃ c, s[a + i]'(by omega) = c := ⟨_, rfl⟩
            rw [show s.data.toList[a + i]'(by simp; omega) = c from hc] at hstep
            obtain ⟨y, hy⟩ : ∃ y, sumUp s.data.toList a (n + 1) (i + 1) = y := ⟨_, rfl⟩
            rw [hy] at hstep ⊢
            have HS := Lib.hid hstep
            clear hstep hy hcase hput HV
            go_wp2
            go_round
            case rel => exact ⟨i, by omega, rfl, by rw [← HS.out, IntKind.wrap_u64, IntKind.wrap_u64]; congr 1; omega⟩
            case measure => simp [intOf]
      · have HN := Lib.hid (hH.out.succ (fun h => by rw [hbL]; omega))
        have h5 : (128 : Int) ≤ (b.toNat : Int) := by omega
        clear H hH hlow hbL
        go_wp2
        go_round
        case rel => exact ⟨n + 1, by go_num, by omega, by omega, HN⟩
        case measure => simp [intOf]; omega
end Go.Proofs.YtkomfenjeoaelaaDoor

/- Contracts of the methods of package vint's Reader. -/
namespace Go.Proofs.YtkomfenjeoaelaaDoor
open Go.RowKit Go.Proofs.YtkomfenjeoaelaaDoor.Vi

/-- Of what was there block b alone may have turned. -/
structure But (b : Nat) (w w' : World) : Prop where
  os : w'.os = w.os
  tape : w'.tape = w.tape
  output : w'.output = w.output
  size : w.heap.size ≤ w'.heap.size
  block : ∀ k, k < w.heap.size → k ≠ b → w'.heap[k]? = w.heap[k]?
theorem But.refl (b : Nat) (w : World) : But b w w := ⟨rfl, rfl, rfl, Nat.le_refl _, fun _ _ _ => rfl⟩
theorem But.trans {b : Nat} {u v w : World} (h : But b u v) (k : But b v w) : But b u w :=
  ⟨k.os.trans h.os, k.tape.trans h.tape, k.output.trans h.output, Nat.le_trans h.size k.size, fun i hi hb => (k.block i (Nat.lt_of_lt_of_le hi h.size) hb).trans (h.block i hi hb)⟩
theorem But.of {b : Nat} {w w' : World} (h : Below w.heap.size w w') : But b w w' := ⟨h.os, h.tape, h.output, h.size, fun k hk _ => h.block k hk⟩
theorem But.drew {b : Nat} {u w : World} (h : But b u w) : But b u w.drew := ⟨h.os, h.tape, h.output, h.size, h.block⟩
theorem But.alloc {b : Nat} {u w : World} (h : But b u w) (o : Obj) : But b u (w.alloc o) := h.trans (But.of ((Below.refl _ w).alloc (Nat.le_refl _) o))
theorem But.setCell {b : Nat} {u w : World} (h : But b u w) (o : Nat) (v : Value) : But b u (w.setCell ⟨b, o, none⟩ v) :=
  h.trans ⟨rfl, rfl, rfl, by simp [World.setCell], fun k _ hb => Below.heap_setCell _ _ _ _ hb⟩
theorem But.below {b B : Nat} {w w' : World} (h : But b w w') (hb : B ≤ b) (hB : B ≤ w.heap.size) : Below B w w' := ⟨h.os, h.tape, h.output, h.size, fun k hk => h.block k (by omega) (by omega)⟩
theorem But.cell {b : Nat} {w w' : World} (h : But b w w') {p : Addr} (hp : p.block ≠ b) (hw : p.block < w.heap.size) : w'.cell? p = w.cell? p := World.cell?_of_block (w := w) (h.block p.block hw hp)
theorem But.frozen {b : Nat} {w w' : World} (h : But b w w') {p : Addr} (hp : p.block ≠ b) (hw : p.block < w.heap.size) : w'.frozen? p = w.frozen? p := World.frozen?_of_block (w := w) (h.block p.block hw hp)

/-- The two cells of a Reader in block b: what is left, and whether it is broken. -/
structure RA (w : World) (b : Nat) (r : ByteArray) (br : Bool) : Prop where
  c0 : w.cell? ⟨b, 0, none⟩ = some (.string r)
  c1 : w.cell? ⟨b, 1, none⟩ = some (.bool br)
  f0 : w.frozen? ⟨b, 0, none⟩ = false
  f1 : w.frozen? ⟨b, 1, none⟩ = false
theorem RA.room {w : World} {b : Nat} {r : ByteArray} {br : Bool} (h : RA w b r br) : b < w.heap.size := World.block_lt_of_cell? w _ h.c0
theorem RA.below {w w' : World} {b : Nat} {r : ByteArray} {br : Bool} (h : RA w b r br) (k : Below w.heap.size w w') : RA w' b r br :=
  ⟨(k.cell (p := ⟨b, 0, none⟩) h.room).trans h.c0, (k.cell (p := ⟨b, 1, none⟩) h.room).trans h.c1, (k.frozen (p := ⟨b, 0, none⟩) h.room).trans h.f0, (k.frozen (p := ⟨b, 1, none⟩) h.room).trans h.f1⟩
theorem RA.but {w w' : World} {b d : Nat} {r : ByteArray} {br : Bool} (h : RA w b r br) (k : But d w w') (hd : b ≠ d) : RA w' b r br :=
  ⟨(k.cell (p := ⟨b, 0, none⟩) hd h.room).trans h.c0, (k.cell (p := ⟨b, 1, none⟩) hd h.room).trans h.c1, (k.frozen (p := ⟨b, 0, none⟩) hd h.room).trans h.f0, (k.frozen (p := ⟨b, 1, none⟩) hd h.room).trans h.f1⟩

/-- A method's answer, and what the reader is then. -/
def Took (b : Nat) (v : Value) (r : ByteArray) (br : Bool) (w : World) (e : Ending) (w' : World) : Prop := e = .returned v ∧ RA w' b r br ∧ But b w w'

theorem makeFunc_run (fn : Fn) (first cap : Array Value) (w : World) : (Instr.makeFunc fn first cap).run Tryd.prog w = .ok (.func fn first cap) w := rfl
theorem getR_some {l : List UInt8} {v m : Nat} (h : getL 0 l = some (v, m)) : getR l 0 = ((v : Int), (m : Int), 0) := by
  unfold getR
  rw [if_neg (by omega)]
  show (match getL 0 l with | none => _ | some (v, m) => _) = _
  rw [h]; simp
theorem getR_none {l : List UInt8} (h : getL 0 l = none) : getR l 0 = (0, 0, 10) := by
  unfold getR
  rw [if_neg (by omega)]
  show (match getL 0 l with | none => _ | some (v, m) => _) = _
  rw [h]
theorem getL_bounds {l : List UInt8} {v m : Nat} (h : getL 0 l = some (v, m)) : v < 18446744073709551616 ∧ 1 ≤ m ∧ m ≤ l.length := by
  obtain ⟨h1, -, h3, rest, h4⟩ := getL_some l 0 v m (by omega) h
  refine ⟨h1, by rw [h3]; exact enc_len_pos v, ?_⟩
  rw [h4, h3, List.length_append]; omega
/-- What is left behind the first m bytes. -/
def restB (r : ByteArray) (m : Nat) : ByteArray := r.extract m r.size
theorem restB_size (r : ByteArray) (m : Nat) : (restB r m).size = r.size - m := by unfold restB; simp

set_option maxHeartbeats 400000 in
theorem number_some (b : Nat) (r r' : ByteArray) (v m : Nat) (w : World) (hr : r.size ≤ maxLen) (hg : Hid (getL 0 r.data.toList = some (v, m))) (hr' : Hid (restB r m = r')) (h : RA w b r false) :
    Calls Tryd.prog 105 #[.pointer (some ⟨b, 0, none⟩)] w (Took b (.tuple #[.int .u64 v, .bool true]) r' false w) := by
  have hk := fun w => get_is r 0 v m 0 w hr (by omega) (by omega) (Lib.hid (getR_some hg.out))
  obtain ⟨h1, h2, h3⟩ := getL_bounds hg.out
  have h4 : m ≤ r.size := by simpa using h3
  have hx : r.extract m r.size = r' := hr'.out
  clear hg hr' h3
  obtain ⟨c0, c1, f0, f1⟩ := h
  go_enter Tryd.func105, Tryd.ntmps105
  go_wp2_with (go_at_call 110; (with_reducible refine (hk _).mono ?_); rintro e w1 ⟨rfl, rfl⟩)
  go_ret2
  exact ⟨rfl, ⟨by simp [go_sem, c0], by simp [go_sem, c1], by simp [go_sem, f0], by simp [go_sem, f1]⟩, (But.refl _ _).setCell _ _⟩
theorem number_none (b : Nat) (r : ByteArray) (w : World) (hr : r.size ≤ maxLen) (hg : Hid (getL 0 r.data.toList = none)) (h : RA w b r false) :
    Calls Tryd.prog 105 #[.pointer (some ⟨b, 0, none⟩)] w (Took b (.tuple #[.int .u64 0, .bool false]) r false w) := by
  have h0 := h
  have hk := fun w => get_is r 0 0 0 10 w hr (by omega) (by omega) (Lib.hid (getR_none hg.out))
  clear hg
  obtain ⟨c0, c1, f0, f1⟩ := h
  go_enter Tryd.func105, Tryd.ntmps105
  go_wp2_with (go_at_call 110; (with_reducible refine (hk _).mono ?_); rintro e w1 ⟨rfl, rfl⟩)
  go_ret2
  exact ⟨rfl, h0, But.refl _ _⟩

theorem take_u64_some (b : Nat) (r r' : ByteArray) (x : Int) (w : World) (h : RA w b r false) (hk : Calls Tryd.prog 105 #[.pointer (some ⟨b, 0, none⟩)] w (Took b (.tuple #[.int .u64 x, .bool true]) r' false w)) :
    Calls Tryd.prog 111 #[.pointer (some ⟨b, 0, none⟩), .func (.func 105) #[.pointer (some ⟨b, 0, none⟩)] #[]] w (Took b (.int .u64 x) r' false w) := by
  obtain ⟨c0, c1, f0, f1⟩ := h
  go_enter Tryd.func111, Tryd.ntmps111
  go_wp2_with (go_at_call 105; (with_reducible refine hk.mono ?_); rintro e w1 ⟨rfl, hR, hB⟩)
  go_ret
  exact ⟨rfl, hR, hB⟩
theorem take_u64_none (b : Nat) (r r' : ByteArray) (x : Int) (w : World) (h : RA w b r false) (hk : Calls Tryd.prog 105 #[.pointer (some ⟨b, 0, none⟩)] w (Took b (.tuple #[.int .u64 x, .bool false]) r' false w)) :
    Calls Tryd.prog 111 #[.pointer (some ⟨b, 0, none⟩), .func (.func 105) #[.pointer (some ⟨b, 0, none⟩)] #[]] w (Took b (.int .u64 0) ⟨#[]⟩ true w) := by
  obtain ⟨c0, c1, f0, f1⟩ := h
  go_enter Tryd.func111, Tryd.ntmps111
  go_wp2_with (go_at_call 105; (with_reducible refine hk.mono ?_); rintro e w1 ⟨rfl, ⟨d0, d1, g0, g1⟩, hB⟩)
  go_ret
  exact ⟨rfl, ⟨by simp [go_sem, d0], by simp [go_sem, d1], by simp [go_sem, g0], by simp [go_sem, g1]⟩, (hB.setCell _ _).setCell _ _⟩
theorem take_int_some (b : Nat) (r r' : ByteArray) (x : Int) (c d : Nat) (w : World) (h : RA w b r false) (hk : Calls Tryd.prog 104 #[.pointer (some ⟨c, 0, none⟩), .pointer (some ⟨d, 0, none⟩)] w (Took b (.tuple #[.int .i64 x, .bool true]) r' false w)) :
    Calls Tryd.prog 103 #[.pointer (some ⟨b, 0, none⟩), .func (.func 104) #[] #[.pointer (some ⟨c, 0, none⟩), .pointer (some ⟨d, 0, none⟩)]] w (Took b (.int .i64 x) r' false w) := by
  obtain ⟨c0, c1, f0, f1⟩ := h
  go_enter Tryd.func103, Tryd.ntmps103
  go_wp2_with (go_at_call 104; (with_reducible refine hk.mono ?_); rintro e w1 ⟨rfl, hR, hB⟩)
  go_ret
  exact ⟨rfl, hR, hB⟩
theorem take_int_none (b : Nat) (r r' : ByteArray) (x : Int) (c d : Nat) (w : World) (h : RA w b r false) (hk : Calls Tryd.prog 104 #[.pointer (some ⟨c, 0, none⟩), .pointer (some ⟨d, 0, none⟩)] w (Took b (.tuple #[.int .i64 x, .bool false]) r' false w)) :
    Calls Tryd.prog 103 #[.pointer (some ⟨b, 0, none⟩), .func (.func 104) #[] #[.pointer (some ⟨c, 0, none⟩), .pointer (some ⟨d, 0, none⟩)]] w (Took b (.int .i64 0) ⟨#[]⟩ true w) := by
  obtain ⟨c0, c1, f0, f1⟩ := h
  go_enter Tryd.func103, Tryd.ntmps103
  go_wp2_with (go_at_call 104; (with_reducible refine hk.mono ?_); rintro e w1 ⟨rfl, ⟨d0, d1, g0, g1⟩, hB⟩)
  go_ret
  exact ⟨rfl, ⟨by simp [go_sem, d0], by simp [go_sem, d1], by simp [go_sem, g0], by simp [go_sem, g1]⟩, (hB.setCell _ _).setCell _ _⟩
theorem take_str_some (b : Nat) (r r' : ByteArray) (x : ByteArray) (w : World) (h : RA w b r false) (hk : Calls Tryd.prog 102 #[.pointer (some ⟨b, 0, none⟩)] w (Took b (.tuple #[.string x, .bool true]) r' false w)) :
    Calls Tryd.prog 101 #[.pointer (some ⟨b, 0, none⟩), .func (.func 102) #[.pointer (some ⟨b, 0, none⟩)] #[]] w (Took b (.string x) r' false w) := by
  obtain ⟨c0, c1, f0, f1⟩ := h
  go_enter Tryd.func101, Tryd.ntmps101
  go_wp2_with (go_at_call 102; (with_reducible refine hk.mono ?_); rintro e w1 ⟨rfl, hR, hB⟩)
  go_ret
  exact ⟨rfl, hR, hB⟩
theorem take_str_none (b : Nat) (r r' : ByteArray) (x : ByteArray) (w : World) (h : RA w b r false) (hk : Calls Tryd.prog 102 #[.pointer (some ⟨b, 0, none⟩)] w (Took b (.tuple #[.string x, .bool false]) r' false w)) :
    Calls Tryd.prog 101 #[.pointer (some ⟨b, 0, none⟩), .func (.func 102) #[.pointer (some ⟨b, 0, none⟩)] #[]] w (Took b (.string ⟨#[]⟩) ⟨#[]⟩ true w) := by
  obtain ⟨c0, c1, f0, f1⟩ := h
  go_enter Tryd.func101, Tryd.ntmps101
  go_wp2_with (go_at_call 102; (with_reducible refine hk.mono ?_); rintro e w1 ⟨rfl, ⟨d0, d1, g0, g1⟩, hB⟩)
  go_ret
  exact ⟨rfl, ⟨by simp [go_sem, d0], by simp [go_sem, d1], by simp [go_sem, g0], by simp [go_sem, g1]⟩, (hB.setCell _ _).setCell _ _⟩
theorem num_nil (w : World) : Calls Tryd.prog 107 #[.pointer none] w fun e w' => e = .returned (.int .u64 0) ∧ w = w' := by
  have hmf := makeFunc_run
  go_enter Tryd.func107, Tryd.ntmps107
  go_wp2
  go_ret
  exact ⟨rfl, rfl⟩
theorem num_broken (b : Nat) (r : ByteArray) (w : World) (h : RA w b r true) : Calls Tryd.prog 107 #[.pointer (some ⟨b, 0, none⟩)] w (Took b (.int .u64 0) r true w) := by
  have hmf := makeFunc_run
  have h0 := h
  obtain ⟨c0, c1, f0, f1⟩ := h
  go_enter Tryd.func107, Tryd.ntmps107
  go_wp2
  go_ret
  exact ⟨rfl, h0, But.refl _ _⟩
theorem num_some (b : Nat) (r r' : ByteArray) (v m : Nat) (w : World) (hr : r.size ≤ maxLen) (hg : Hid (getL 0 r.data.toList = some (v, m))) (hr' : Hid (restB r m = r')) (h : RA w b r false) :
    Calls Tryd.prog 107 #[.pointer (some ⟨b, 0, none⟩)] w (Took b (.int .u64 v) r' false w) := by
  have hmf := makeFunc_run
  have hk := take_u64_some b r r' v w h (number_some b r r' v m w hr hg hr' h)
  obtain ⟨c0, c1, f0, f1⟩ := h
  go_enter Tryd.func107, Tryd.ntmps107
  go_wp2_with (go_at_call 111; (with_reducible refine hk.mono ?_); rintro e w1 ⟨rfl, hR, hB⟩)
  go_ret
  exact ⟨rfl, hR, hB⟩
theorem num_none (b : Nat) (r : ByteArray) (w : World) (hr : r.size ≤ maxLen) (hg : Hid (getL 0 r.data.toList = none)) (h : RA w b r false) :
    Calls Tryd.prog 107 #[.pointer (some ⟨b, 0, none⟩)] w (Took b (.int .u64 0) ⟨#[]⟩ true w) := by
  have hmf := makeFunc_run
  have hk := take_u64_none b r r 0 w h (number_none b r w hr hg h)
  obtain ⟨c0, c1, f0, f1⟩ := h
  go_enter Tryd.func107, Tryd.ntmps107
  go_wp2_with (go_at_call 111; (with_reducible refine hk.mono ?_); rintro e w1 ⟨rfl, hR, hB⟩)
  go_ret
  exact ⟨rfl, hR, hB⟩
end Go.Proofs.YtkomfenjeoaelaaDoor

/- The contract of strings.Clone over this seat's translation: the same bytes. -/
namespace Go.Proofs.YtkomfenjeoaelaaDoor
open Go.RowKit

theorem infoU : (Tryd.prog.info? 5).map (fun i => (i.zero, i.size, i.bytes)) = some (some (.int .u8 0), 1, 1) := by kernel_rfl

set_option maxHeartbeats 4000000 in
set_option maxRecDepth 100000 in
theorem inner_clone (s : ByteArray) (w : World) (hlim : s.size ≤ 100000) : Calls Tryd.prog 71 #[.string s] w fun e w' => e = .returned (.string s) ∧ Below w.heap.size w w' := by
  rcases Nat.eq_zero_or_pos s.size with h0 | h0
  · obtain rfl : s = ⟨#[]⟩ := ByteArray.ext (Array.eq_empty_of_size_eq_zero h0)
    go_enter Tryd.func71, Tryd.ntmps71
    go_wp2
    go_ret
    exact ⟨rfl, Below.refl _ _⟩
  · obtain ⟨i0, hi, hz0, hz1, hz2⟩ := info_parts infoU
    have hone : Tryd.prog.cellsOf 5 = 1 := by kernel_rfl
    -- the new row
    obtain ⟨row, hrow⟩ : ∃ row, madeCells (Value.int .u8 0).cells (((s.size : Nat) : Int).toNat * i0.size) = row := ⟨_, rfl⟩
    have hrs : row.size = s.size := by rw [← hrow, size_madeCells, hz1]; simp
    have hmake : ∀ W : World, (Instr.makeSlice 49 (.int .i64 (s.size : Int)) (.int .i64 (s.size : Int))).run Tryd.prog W = .ok (.slice (some ⟨W.heap.size, 0, none⟩) s.size s.size) (W.alloc (.cells row 5)) := fun W => by
      have h := run_make (P := Tryd.prog) W 49 5 i0 (.int .u8 0) Tryd.underlying49 hi hz0 .i64 .i64 (s.size : Int) (s.size : Int) (by omega) (by omega) (by rw [hz2]; omega) (by omega)
      rw [hrow] at h
      simpa using h
    clear hrow
    -- the row behind the copy
    obtain ⟨cells, hcells⟩ : ∃ cells, (row.toList.take 0 ++ Lib.byteCells s.data.toList ++ row.toList.drop (0 + s.size)).toArray = cells := ⟨_, rfl⟩
    have hcopy := Lib.run_copy_row_string (P := Tryd.prog) (w.alloc (.cells row 5)) 49 9 3 5 w.heap.size 0 s.size s.size s row 5 Tryd.underlying49 (by rw [hi]; simp [hz1]) (heap_alloc_new w _) (Nat.le_refl _) (by omega)
    rw [hcells] at hcopy
    have hcl : cells.toList = Lib.byteCells s.data.toList := by
      rw [← hcells, List.take_zero, List.nil_append, List.drop_of_length_le (by simp [hrs]), List.append_nil]
    have hcs : cells.size = s.size := by rw [← Array.length_toList, hcl, Lib.byteCells_length, ← Lib.size_eq]
    have hblock : ((w.alloc (.cells row 5)).setRow w.heap.size cells).heap[w.heap.size]? = some (.cells cells 5 (0, 0)) := setRow_heap _ _ row _ 5 (0, 0) (heap_alloc_new w _)
    -- the text over it
    have htext := Lib.run_unsafeString_row (P := Tryd.prog) ((w.alloc (.cells row 5)).setRow w.heap.size cells) 105 3 9 5 Tryd.underlying105 hone w.heap.size cells.size (by unfold World.shape?; rw [hblock]) s.data.toList
      (by intro e; rw [Lib.size_eq, e] at h0; exact absurd h0 (by simp)) (by rw [← Lib.size_eq]; omega) (by rw [← Lib.size_eq]; omega)
      (fun j x hx => Lib.cells_of_row hblock cells.size j _ (by rw [List.take_of_length_le (by simp), hcl]; simp [Lib.byteCells, hx]))
    rw [← Lib.size_eq] at htext
    clear hcells hi
    go_enter Tryd.func71, Tryd.ntmps71
    go_wp2
    go_ret
    have b1 : Below w.heap.size w (w.alloc (.cells row 5)) := (Below.refl _ w).alloc (Nat.le_refl _) _
    have b2 : Below w.heap.size (w.alloc (.cells row 5)) ((w.alloc (.cells row 5)).setRow w.heap.size cells) := ⟨rfl, rfl, rfl, by simp, fun k hk => setRow_other _ _ _ _ (by omega)⟩
    exact ⟨rfl, Lib.below_freeze (b1.trans b2) (p := ⟨w.heap.size, 0, none⟩) (Nat.le_refl _) _⟩
end Go.Proofs.YtkomfenjeoaelaaDoor

/- The methods of package vint's Reader, each by one contract: what it answers, and what is left. -/
namespace Go.Proofs.YtkomfenjeoaelaaDoor
open Go.RowKit Go.Proofs.YtkomfenjeoaelaaDoor.Vi

/-- The number that comes next, and what is left behind it. -/
def numF (r : ByteArray) : Option (Nat × ByteArray) :=
  match getL 0 r.data.toList with
  | none => none
  | some (v, m) => some (v, restB r m)
theorem numF_none {r : ByteArray} (h : numF r = none) : getL 0 r.data.toList = none := by
  unfold numF at h
  split at h
  · assumption
  · cases h
theorem numF_some {r r' : ByteArray} {v : Nat} (h : numF r = some (v, r')) : ∃ m, getL 0 r.data.toList = some (v, m) ∧ restB r m = r' := by
  unfold numF at h
  split at h
  · cases h
  · rename_i v' m he
    simp at h
    obtain ⟨rfl, rfl⟩ := h
    exact ⟨m, he, rfl⟩
theorem numF_bounds {r r' : ByteArray} {v : Nat} (h : numF r = some (v, r')) : v < 18446744073709551616 ∧ r'.size ≤ r.size := by
  obtain ⟨m, h1, rfl⟩ := numF_some h
  obtain ⟨h2, _⟩ := getL_bounds h1
  exact ⟨h2, by rw [restB_size]; omega⟩

/-- What Num answers, and what is left. -/
def numQ (r : ByteArray) (br : Bool) : Int × ByteArray × Bool :=
  if br then (0, r, true) else match numF r with
    | none => (0, ⟨#[]⟩, true)
    | some (v, r') => ((v : Int), r', false)
def smallQ (r : ByteArray) (br : Bool) (most : Int) : Int × ByteArray × Bool :=
  if br then (0, r, true) else match numF r with
    | none => (0, ⟨#[]⟩, true)
    | some (v, r') => if 0 ≤ most ∧ (v : Int) ≤ most then ((v : Int), r', false) else (0, ⟨#[]⟩, true)
def textQ (r : ByteArray) (br : Bool) : ByteArray × ByteArray × Bool :=
  if br then (⟨#[]⟩, r, true) else match numF r with
    | none => (⟨#[]⟩, ⟨#[]⟩, true)
    | some (v, r') => if v ≤ r'.size then (r'.extract 0 v, restB r' v, false) else (⟨#[]⟩, ⟨#[]⟩, true)
def endQ (r : ByteArray) (br : Bool) : Int := if br then 10 else if r.size = 0 then 0 else 10

theorem num_is (b : Nat) (r r' : ByteArray) (br br' : Bool) (v : Int) (w : World) (hr : r.size ≤ maxLen) (H : Hid (numQ r br = (v, r', br'))) (h : RA w b r br) :
    Calls Tryd.prog 107 #[.pointer (some ⟨b, 0, none⟩)] w (Took b (.int .u64 v) r' br' w) := by
  have H := H.out
  unfold numQ at H
  cases br with
  | true =>
    rw [if_pos rfl] at H
    simp at H
    obtain ⟨rfl, rfl, rfl⟩ := H
    exact num_broken b r w h
  | false =>
    rw [if_neg (by simp)] at H
    cases hf : numF r with
    | none =>
      rw [hf] at H
      simp at H
      obtain ⟨rfl, rfl, rfl⟩ := H
      exact num_none b r w hr (numF_none hf) h
    | some x =>
      obtain ⟨u, r1⟩ := x
      rw [hf] at H
      simp at H
      obtain ⟨rfl, rfl, rfl⟩ := H
      obtain ⟨m, h1, h2⟩ := numF_some hf
      exact num_some b r _ _ m w hr h1 h2 h
theorem numQ_bounds {r r' : ByteArray} {br br' : Bool} {v : Int} (H : numQ r br = (v, r', br')) : 0 ≤ v ∧ v ≤ 18446744073709551615 ∧ r'.size ≤ r.size := by
  unfold numQ at H
  split at H
  · simp at H
    obtain ⟨rfl, rfl, rfl⟩ := H
    omega
  · split at H
    · simp at H
      obtain ⟨rfl, rfl, rfl⟩ := H
      exact ⟨by omega, by omega, Nat.zero_le _⟩
    · rename_i u r1 hf
      simp at H
      obtain ⟨rfl, rfl, rfl⟩ := H
      have := numF_bounds hf
      omega
theorem int_is (b : Nat) (r r' : ByteArray) (br br' : Bool) (v z : Int) (w : World) (hr : r.size ≤ maxLen) (H : Hid (numQ r br = (v, r', br'))) (hz : Hid (zag v = z)) (h : RA w b r br) :
    Calls Tryd.prog 86 #[.pointer (some ⟨b, 0, none⟩)] w (Took b (.int .i64 z) r' br' w) := by
  have hk := num_is b r r' br br' v w hr H h
  obtain ⟨h1, h2, _⟩ := numQ_bounds H.out
  have hg := fun w => zag_any v w h1 h2
  rw [hz.out] at hg
  go_enter Tryd.func86, Tryd.ntmps86
  go_wp2_with (first
    | (go_at_call 107; (with_reducible refine hk.mono ?_); rintro e w1 ⟨rfl, hR, hB⟩)
    | (go_at_call 106; (with_reducible refine (hg _).mono ?_); rintro e w2 ⟨rfl, rfl⟩))
  go_ret
  exact ⟨rfl, hR, hB⟩
theorem read_is (s : ByteArray) (w : World) : Calls Tryd.prog 83 #[.string s] w fun e w' => e = .returned (.pointer (some ⟨w.heap.size, 0, none⟩)) ∧ RA w' w.heap.size s false ∧ Below w.heap.size w w' ∧ w.heap.size < w'.heap.size := by
  go_enter Tryd.func83, Tryd.ntmps83
  go_wp2
  go_ret
  exact ⟨rfl, ⟨by simp [go_sem], by simp [go_sem], by simp [go_sem], by simp [go_sem]⟩, (Below.refl _ _).alloc (Nat.le_refl _) _, by simp⟩

theorem int_nil (w : World) : Calls Tryd.prog 86 #[.pointer none] w fun e w' => e = .returned (.int .i64 0) ∧ w = w' := by
  have hg := fun w => zag_any 0 w (by omega) (by omega)
  rw [show zag 0 = 0 by decide] at hg
  go_enter Tryd.func86, Tryd.ntmps86
  go_wp2_with (first
    | (go_at_call 107; (with_reducible refine (num_nil _).mono ?_); rintro e w1 ⟨rfl, rfl⟩)
    | (go_at_call 106; (with_reducible refine (hg _).mono ?_); rintro e w2 ⟨rfl, rfl⟩))
  go_ret
  exact ⟨rfl, rfl⟩
theorem text_nil (w : World) : Calls Tryd.prog 84 #[.pointer none] w fun e w' => e = .returned (.string ⟨#[]⟩) ∧ w = w' := by
  have hmf := makeFunc_run
  go_enter Tryd.func84, Tryd.ntmps84
  go_wp2
  go_ret
  exact ⟨rfl, rfl⟩
theorem small_nil (m : Int) (w : World) : Calls Tryd.prog 85 #[.pointer none, .int .i64 m] w fun e w' => e = .returned (.int .i64 0) ∧ Below w.heap.size w w' := by
  have hmf := makeFunc_run
  go_enter Tryd.func85, Tryd.ntmps85
  go_wp2
  go_ret
  exact ⟨rfl, ((Below.refl _ _).alloc (Nat.le_refl _) _).alloc (by simp) _⟩
end Go.Proofs.YtkomfenjeoaelaaDoor

/- Small and Text of package vint's Reader. -/
namespace Go.Proofs.YtkomfenjeoaelaaDoor
open Go.RowKit Go.Proofs.YtkomfenjeoaelaaDoor.Vi

theorem below_drawn (w : World) (n : Nat) : Below w.heap.size w (w.drewN n) := ⟨rfl, rfl, rfl, Nat.le_refl _, fun _ _ => rfl⟩
theorem Took.drewN {b : Nat} {v : Value} {r : ByteArray} {br : Bool} {w w1 : World} (n : Nat) (hR : RA w1 b r br) (hB : But b w w1) : Took b v r br w (.returned v) (w1.drewN n) :=
  ⟨rfl, hR.below (below_drawn _ _), hB.trans (But.of (below_drawn _ _))⟩

set_option maxHeartbeats 1000000 in
theorem small1_none (b c d : Nat) (r : ByteArray) (w : World) (hr : r.size ≤ maxLen) (hg : Hid (getL 0 r.data.toList = none)) (h : RA w b r false) (hc : w.cell? ⟨c, 0, none⟩ = some (.pointer (some ⟨b, 0, none⟩))) :
    Calls Tryd.prog 104 #[.pointer (some ⟨c, 0, none⟩), .pointer (some ⟨d, 0, none⟩)] w (Took b (.tuple #[.int .i64 0, .bool false]) r false w) := by
  have hk := number_none b r w hr hg h
  go_enter Tryd.func104, Tryd.ntmps104
  go_wp2_with (go_at_call 105; (with_reducible refine hk.mono ?_); rintro e w1 ⟨rfl, hR, hB⟩)
  go_quiet (fail)
  go_wp2
  go_ret2
  exact Took.drewN _ hR hB
set_option maxHeartbeats 1000000 in
theorem small1_yes (b c d : Nat) (r r' : ByteArray) (v m : Nat) (most : Int) (w : World) (hr : r.size ≤ maxLen) (hg : Hid (getL 0 r.data.toList = some (v, m))) (hr' : Hid (restB r m = r')) (h : RA w b r false)
    (hc : w.cell? ⟨c, 0, none⟩ = some (.pointer (some ⟨b, 0, none⟩))) (hd : w.cell? ⟨d, 0, none⟩ = some (.int .i64 most)) (hdb : d ≠ b) (h0 : 0 ≤ most) (h1 : most ≤ 9223372036854775807) (hv : (v : Int) ≤ most) :
    Calls Tryd.prog 104 #[.pointer (some ⟨c, 0, none⟩), .pointer (some ⟨d, 0, none⟩)] w (Took b (.tuple #[.int .i64 (v : Int), .bool true]) r' false w) := by
  have hk := number_some b r r' v m w hr hg hr' h
  have hdr := World.block_lt_of_cell? w _ hd
  go_enter Tryd.func104, Tryd.ntmps104
  go_wp2_with (go_at_call 105; (with_reducible refine hk.mono ?_); rintro e w1 ⟨rfl, hR, hB⟩)
  have hd1 : w1.cell? ⟨d, 0, none⟩ = some (.int .i64 most) := (hB.cell (p := ⟨d, 0, none⟩) hdb hdr).trans hd
  have e1 : IntKind.i64.wrap (v : Int) = (v : Int) := IntWalk.i64_in _ (by omega)
  have e2 : IntKind.u64.wrap most = most := by rw [IntKind.wrap_u64]; omega
  clear hk hc hd
  go_quiet (fail)
  go_wp2
  go_ret2
  exact Took.drewN _ hR hB
set_option maxHeartbeats 1000000 in
theorem small1_no (b c d : Nat) (r r' : ByteArray) (v m : Nat) (most : Int) (w : World) (hr : r.size ≤ maxLen) (hg : Hid (getL 0 r.data.toList = some (v, m))) (hr' : Hid (restB r m = r')) (h : RA w b r false)
    (hc : w.cell? ⟨c, 0, none⟩ = some (.pointer (some ⟨b, 0, none⟩))) (hd : w.cell? ⟨d, 0, none⟩ = some (.int .i64 most)) (hdb : d ≠ b) (h1 : most ≤ 9223372036854775807) (hv : most < 0 ∨ most < (v : Int)) :
    Calls Tryd.prog 104 #[.pointer (some ⟨c, 0, none⟩), .pointer (some ⟨d, 0, none⟩)] w (Took b (.tuple #[.int .i64 (wrap64 (v : Int)), .bool false]) r' false w) := by
  have hk := number_some b r r' v m w hr hg hr' h
  have hdr := World.block_lt_of_cell? w _ hd
  go_enter Tryd.func104, Tryd.ntmps104
  go_wp2_with (go_at_call 105; (with_reducible refine hk.mono ?_); rintro e w1 ⟨rfl, hR, hB⟩)
  have hd1 : w1.cell? ⟨d, 0, none⟩ = some (.int .i64 most) := (hB.cell (p := ⟨d, 0, none⟩) hdb hdr).trans hd
  clear hk hc hd
  by_cases h0 : 0 ≤ most
  · have e2 : IntKind.u64.wrap most = most := by rw [IntKind.wrap_u64]; omega
    have e3 : decide ((v : Int) ≤ most) = false := by simp; omega
    clear hv
    go_quiet (fail)
    go_wp2
    go_ret2
    exact Took.drewN _ hR hB
  · have e3 : decide (0 ≤ most) = false := by simp; omega
    clear hv
    go_quiet (fail)
    go_wp2
    go_ret2
    exact Took.drewN _ hR hB
set_option maxHeartbeats 1000000 in
theorem small_is (b : Nat) (r r' : ByteArray) (br br' : Bool) (v most : Int) (w : World) (hr : r.size ≤ maxLen) (h1 : most ≤ 9223372036854775807) (H : Hid (smallQ r br most = (v, r', br'))) (h : RA w b r br) :
    Calls Tryd.prog 85 #[.pointer (some ⟨b, 0, none⟩), .int .i64 most] w (Took b (.int .i64 v) r' br' w) := by
  have hmf := makeFunc_run
  obtain ⟨W, hW⟩ : ∃ W, (w.alloc (.cells #[.pointer (some ⟨b, 0, none⟩)] 95)).alloc (.cells #[.int .i64 most] 3) = W := ⟨_, rfl⟩
  have hbl : Below w.heap.size w W := by rw [← hW]; exact ((Below.refl _ _).alloc (Nat.le_refl _) _).alloc (by simp) _
  have hA := h.below hbl
  have hroom := h.room
  have hc : W.cell? ⟨w.heap.size, 0, none⟩ = some (.pointer (some ⟨b, 0, none⟩)) := by rw [← hW]; simp [go_sem]
  have hd : W.cell? ⟨w.heap.size + 1, 0, none⟩ = some (.int .i64 most) := by rw [← hW]; simp [go_sem]
  have H := H.out
  unfold smallQ at H
  cases br with
  | true =>
    rw [if_pos rfl] at H
    simp at H
    obtain ⟨rfl, rfl, rfl⟩ := H
    subst hW
    obtain ⟨c0, c1, f0, f1⟩ := h
    go_enter Tryd.func85, Tryd.ntmps85
    go_wp2
    go_ret
    exact ⟨rfl, hA, But.of hbl⟩
  | false =>
    have fin : ∀ (x : Int) (r2 : ByteArray) (b2 : Bool), Calls Tryd.prog 103 #[.pointer (some ⟨b, 0, none⟩), .func (.func 104) #[] #[.pointer (some ⟨w.heap.size, 0, none⟩), .pointer (some ⟨w.heap.size + 1, 0, none⟩)]] W (Took b (.int .i64 x) r2 b2 W) →
        Calls Tryd.prog 85 #[.pointer (some ⟨b, 0, none⟩), .int .i64 most] w (Took b (.int .i64 x) r2 b2 w) := by
      intro x r2 b2 hk
      subst hW
      go_enter Tryd.func85, Tryd.ntmps85
      go_wp2_with (go_at_call 103; (with_reducible refine hk.mono ?_); rintro e w1 ⟨rfl, hR, hB⟩)
      go_ret
      exact ⟨rfl, hR, (But.of hbl).trans hB⟩
    rw [if_neg (by simp)] at H
    cases hf : numF r with
    | none =>
      rw [hf] at H
      simp at H
      obtain ⟨rfl, rfl, rfl⟩ := H
      exact fin _ _ _ (take_int_none b r r 0 _ _ W hA (small1_none b _ _ r W hr (numF_none hf) hA hc))
    | some x =>
      obtain ⟨u, r1⟩ := x
      rw [hf] at H
      simp only at H
      obtain ⟨m, g1, g2⟩ := numF_some hf
      by_cases hcnd : 0 ≤ most ∧ (u : Int) ≤ most
      · rw [if_pos hcnd] at H
        simp at H
        obtain ⟨rfl, rfl, rfl⟩ := H
        exact fin _ _ _ (take_int_some b r _ _ _ _ W hA (small1_yes b _ _ r _ u m most W hr g1 g2 hA hc hd (by omega) hcnd.1 h1 hcnd.2))
      · rw [if_neg hcnd] at H
        simp at H
        obtain ⟨rfl, rfl, rfl⟩ := H
        exact fin _ _ _ (take_int_none b r _ _ _ _ W hA (small1_no b _ _ r _ u m most W hr g1 g2 hA hc hd (by omega) h1 (by omega)))

theorem clone_is (s : ByteArray) (w : World) (hlim : s.size ≤ 100000) : Calls Tryd.prog 44 #[.string s] w fun e w' => e = .returned (.string s) ∧ Below w.heap.size w w' := by
  have hk := fun w => inner_clone s w hlim
  go_enter Tryd.func44, Tryd.ntmps44
  go_wp2_with (go_at_call 71; (with_reducible refine (hk _).mono ?_); rintro e w1 ⟨rfl, hB⟩)
  go_ret
  exact ⟨rfl, hB⟩

set_option maxHeartbeats 1000000 in
theorem text1_none (b : Nat) (r : ByteArray) (w : World) (hr : r.size ≤ 100000) (hg : Hid (getL 0 r.data.toList = none)) (h : RA w b r false) :
    Calls Tryd.prog 102 #[.pointer (some ⟨b, 0, none⟩)] w (Took b (.tuple #[.string ⟨#[]⟩, .bool false]) r false w) := by
  have hk := number_none b r w (by unfold maxLen; omega) hg h
  go_enter Tryd.func102, Tryd.ntmps102
  go_wp2_with (go_at_call 105; (with_reducible refine hk.mono ?_); rintro e w1 ⟨rfl, hR, hB⟩)
  go_ret2
  exact ⟨rfl, hR, hB⟩
set_option maxHeartbeats 1000000 in
theorem text1_no (b : Nat) (r r' : ByteArray) (v m : Nat) (w : World) (hr : r.size ≤ 100000) (hg : Hid (getL 0 r.data.toList = some (v, m))) (hr' : Hid (restB r m = r')) (hz : r'.size ≤ r.size) (h : RA w b r false) (hv : ¬ v ≤ r'.size) :
    Calls Tryd.prog 102 #[.pointer (some ⟨b, 0, none⟩)] w (Took b (.tuple #[.string ⟨#[]⟩, .bool false]) r' false w) := by
  have hk := number_some b r r' v m w (by unfold maxLen; omega) hg hr' h
  have hv2 : (r'.size : Int) < (v : Int) := by omega
  clear hg hr'
  go_enter Tryd.func102, Tryd.ntmps102
  go_wp2_with (go_at_call 105; (with_reducible refine hk.mono ?_); rintro e w1 ⟨rfl, hR, hB⟩; obtain ⟨d0, d1, g0, g1⟩ := hR)
  go_ret2
  exact ⟨rfl, ⟨d0, d1, g0, g1⟩, hB⟩
set_option maxHeartbeats 1000000 in
theorem text1_yes (b : Nat) (r r' t r2 : ByteArray) (v m : Nat) (w : World) (hr : r.size ≤ 100000) (hg : Hid (getL 0 r.data.toList = some (v, m))) (hr' : Hid (restB r m = r')) (hz : r'.size ≤ r.size) (h : RA w b r false) (hv : v ≤ r'.size)
    (ht : Hid (r'.extract 0 v = t)) (hr2 : Hid (restB r' v = r2)) :
    Calls Tryd.prog 102 #[.pointer (some ⟨b, 0, none⟩)] w (Took b (.tuple #[.string t, .bool true]) r2 false w) := by
  have hk := number_some b r r' v m w (by unfold maxLen; omega) hg hr' h
  have hroom := h.room
  have hts : t.size ≤ 100000 := by rw [← ht.out]; simp; omega
  have hcl := fun w => clone_is t w hts
  have hv2 : (v : Int) ≤ (r'.size : Int) := by omega
  have x1 : r'.extract 0 v = t := ht.out
  have x2 : r'.extract v r'.size = r2 := hr2.out
  clear hg hr' ht hr2
  go_enter Tryd.func102, Tryd.ntmps102
  go_wp2_with (first
    | (go_at_call 105; (with_reducible refine hk.mono ?_); rintro e w1 ⟨rfl, hR, hB⟩; obtain ⟨d0, d1, g0, g1⟩ := hR)
    | (go_at_call 44; (with_reducible refine (hcl _).mono ?_); rintro e w2 ⟨rfl, hB2⟩; have hR2 := (⟨d0, d1, g0, g1⟩ : RA _ b r' false).below hB2; have k0 := hR2.c0; have k1 := hR2.c1; have k2 := hR2.f0; have k3 := hR2.f1))
  go_ret2
  exact ⟨rfl, ⟨by simp [go_sem, k0], by simp [go_sem, k1], by simp [go_sem, k2], by simp [go_sem, k3]⟩, (hB.trans (But.of hB2)).setCell _ _⟩

set_option maxHeartbeats 1000000 in
theorem text_is' (b : Nat) (r r' : ByteArray) (br br' : Bool) (v : ByteArray) (w : World) (hr : r.size ≤ 100000) (H : Hid (textQ r br = (v, r', br'))) (h : RA w b r br) :
    Calls Tryd.prog 84 #[.pointer (some ⟨b, 0, none⟩)] w (Took b (.string v) r' br' w) := by
  have hmf := makeFunc_run
  have H := H.out
  unfold textQ at H
  cases br with
  | true =>
    rw [if_pos rfl] at H
    simp at H
    obtain ⟨rfl, rfl, rfl⟩ := H
    have h0 := h
    obtain ⟨c0, c1, f0, f1⟩ := h
    go_enter Tryd.func84, Tryd.ntmps84
    go_wp2
    go_ret
    exact ⟨rfl, h0, But.refl _ _⟩
  | false =>
    have fin : ∀ (x r2 : ByteArray) (b2 : Bool), Calls Tryd.prog 101 #[.pointer (some ⟨b, 0, none⟩), .func (.func 102) #[.pointer (some ⟨b, 0, none⟩)] #[]] w (Took b (.string x) r2 b2 w) →
        Calls Tryd.prog 84 #[.pointer (some ⟨b, 0, none⟩)] w (Took b (.string x) r2 b2 w) := by
      intro x r2 b2 hk
      go_enter Tryd.func84, Tryd.ntmps84
      go_wp2_with (go_at_call 101; (with_reducible refine hk.mono ?_); rintro e w1 ⟨rfl, hR, hB⟩)
      go_ret
      exact ⟨rfl, hR, hB⟩
    rw [if_neg (by simp)] at H
    cases hf : numF r with
    | none =>
      rw [hf] at H
      simp at H
      obtain ⟨rfl, rfl, rfl⟩ := H
      exact fin _ _ _ (take_str_none b r r _ w h (text1_none b r w hr (numF_none hf) h))
    | some x =>
      obtain ⟨u, r1⟩ := x
      rw [hf] at H
      simp only at H
      obtain ⟨m, g1, g2⟩ := numF_some hf
      have hz := (numF_bounds hf).2
      by_cases hcnd : u ≤ r1.size
      · rw [if_pos hcnd] at H
        simp at H
        obtain ⟨rfl, rfl, rfl⟩ := H
        exact fin _ _ _ (take_str_some b r _ _ w h (text1_yes b r r1 _ _ u m w hr g1 g2 hz h hcnd (Lib.hid rfl) (Lib.hid rfl)))
      · rw [if_neg hcnd] at H
        simp at H
        obtain ⟨rfl, rfl, rfl⟩ := H
        exact fin _ _ _ (take_str_none b r _ _ w h (text1_no b r r1 u m w hr g1 g2 hz h hcnd))
end Go.Proofs.YtkomfenjeoaelaaDoor

/- Contracts of the methods of the document's Reader. -/
namespace Go.Proofs.YtkomfenjeoaelaaDoor
open Go.RowKit Go.Proofs.YtkomfenjeoaelaaDoor.Vi

/-- The three cells of the document's Reader in block d. -/
structure RB (w : World) (d : Nat) (S : ByteArray) (a : Nat) (bad : Bool) : Prop where
  c0 : w.cell? ⟨d, 0, none⟩ = some (.string S)
  c1 : w.cell? ⟨d, 1, none⟩ = some (.int .i64 (a : Int))
  c2 : w.cell? ⟨d, 2, none⟩ = some (.bool bad)
  f0 : w.frozen? ⟨d, 0, none⟩ = false
  f1 : w.frozen? ⟨d, 1, none⟩ = false
  f2 : w.frozen? ⟨d, 2, none⟩ = false
theorem RB.room {w : World} {d a : Nat} {S : ByteArray} {bad : Bool} (h : RB w d S a bad) : d < w.heap.size := World.block_lt_of_cell? w _ h.c0
theorem RB.but {w w' : World} {d b a : Nat} {S : ByteArray} {bad : Bool} (h : RB w d S a bad) (k : But b w w') (hd : d ≠ b) : RB w' d S a bad :=
  ⟨(k.cell (p := ⟨d, 0, none⟩) hd h.room).trans h.c0, (k.cell (p := ⟨d, 1, none⟩) hd h.room).trans h.c1, (k.cell (p := ⟨d, 2, none⟩) hd h.room).trans h.c2,
    (k.frozen (p := ⟨d, 0, none⟩) hd h.room).trans h.f0, (k.frozen (p := ⟨d, 1, none⟩) hd h.room).trans h.f1, (k.frozen (p := ⟨d, 2, none⟩) hd h.room).trans h.f2⟩
theorem RB.below {w w' : World} {d a : Nat} {S : ByteArray} {bad : Bool} (h : RB w d S a bad) (k : Below w.heap.size w w') : RB w' d S a bad :=
  ⟨(k.cell (p := ⟨d, 0, none⟩) h.room).trans h.c0, (k.cell (p := ⟨d, 1, none⟩) h.room).trans h.c1, (k.cell (p := ⟨d, 2, none⟩) h.room).trans h.c2,
    (k.frozen (p := ⟨d, 0, none⟩) h.room).trans h.f0, (k.frozen (p := ⟨d, 1, none⟩) h.room).trans h.f1, (k.frozen (p := ⟨d, 2, none⟩) h.room).trans h.f2⟩
theorem rb_keep {w w1 w2 : World} {d a : Nat} {S : ByteArray} {bad : Bool} (hb : Below w1.heap.size w1 w2) (h : (fun w' => w'.cell? ⟨d, 0, none⟩ = some (.string S) ∧ w'.cell? ⟨d, 1, none⟩ = some (.int .i64 (a : Int)) ∧ w'.cell? ⟨d, 2, none⟩ = some (.bool bad) ∧ w'.frozen? ⟨d, 0, none⟩ = false ∧ w'.frozen? ⟨d, 1, none⟩ = false ∧ w'.frozen? ⟨d, 2, none⟩ = false ∧ Below w.heap.size w w') w1) : (fun w' => w'.cell? ⟨d, 0, none⟩ = some (.string S) ∧ w'.cell? ⟨d, 1, none⟩ = some (.int .i64 (a : Int)) ∧ w'.cell? ⟨d, 2, none⟩ = some (.bool bad) ∧ w'.frozen? ⟨d, 0, none⟩ = false ∧ w'.frozen? ⟨d, 1, none⟩ = false ∧ w'.frozen? ⟨d, 2, none⟩ = false ∧ Below w.heap.size w w') w2 := by
  obtain ⟨h1, h2, h3, h4, h5, h6, h7⟩ := h
  have R := RB.below ⟨h1, h2, h3, h4, h5, h6⟩ hb
  exact ⟨R.c0, R.c1, R.c2, R.f0, R.f1, R.f2, h7.trans (hb.mono h7.size)⟩

/-- A method's answer, and what the document's reader is then. -/
def RTook (d : Nat) (v : Value) (S : ByteArray) (a : Nat) (bad : Bool) (w : World) (e : Ending) (w' : World) : Prop := e = .returned v ∧ RB w' d S a bad ∧ But d w w'

set_option maxHeartbeats 2000000 in
theorem rnum_bad (d a : Nat) (S : ByteArray) (w : World) (hs : S.size ≤ 100000) (ha : a ≤ S.size) (h : RB w d S a true) :
    Calls Tryd.prog 94 #[.pointer (some ⟨d, 0, none⟩)] w (RTook d (.int .u64 0) S a true w) := by
  obtain ⟨⟨v, p, e⟩, hg⟩ : ∃ x : Int × Int × Int, getR S.data.toList (a : Int) = x := ⟨_, rfl⟩
  have hk := fun w => refGet_is S (a : Int) v p e w (by unfold maxLen; omega) (by omega) (by omega) (Lib.hid hg)
  clear hg
  obtain ⟨c0, c1, c2, f0, f1, f2⟩ := h
  go_enter Tryd.func94, Tryd.ntmps94
  go_wp2_with fail
  refine wp_region_held_drew (S := (fun w' => w'.cell? ⟨d, 0, none⟩ = some (.string S) ∧ w'.cell? ⟨d, 1, none⟩ = some (.int .i64 (a : Int)) ∧ w'.cell? ⟨d, 2, none⟩ = some (.bool true) ∧ w'.frozen? ⟨d, 0, none⟩ = false ∧ w'.frozen? ⟨d, 1, none⟩ = false ∧ w'.frozen? ⟨d, 2, none⟩ = false ∧ Below w.heap.size w w')) (by kernel_rfl) ⟨c0, c1, c2, f0, f1, f2, (Below.refl _ _).drew⟩ (fun hHeld => ?_)
  refine wpAnyH_take (i := 0) (oi := ?zao0) (v := ?zav0) ?zah0 (by kernel_rfl) (by kernel_rfl) (by kernel_rfl) ?zaq0 ?zay0 hHeld ?zar0
  case zah0 => (simp only [List.getElem?_toArray, List.getElem?_cons_zero]; rfl)
  case zaq0 => exact fun _ _ _ h => h
  case zay0 => (refine Or.inl ⟨by first | kernel_rfl | rfl, ?_⟩; intro w hSw; (try dsimp only at hSw); go_simp <;> (try with_reducible rfl))
  try simp only [Act.put, List.setIfInBounds_toArray, List.set_cons_zero, List.set_cons_succ]
  refine wpAnyH_take (i := 1) (oi := ?zao1) (v := ?zav1) ?zah1 (by kernel_rfl) (by kernel_rfl) (by kernel_rfl) ?zaq1 ?zay1 hHeld ?zar1
  case zah1 => (simp only [List.getElem?_toArray, List.getElem?_cons_succ, List.getElem?_cons_zero]; rfl)
  case zaq1 => exact fun _ _ _ h => h
  case zay1 => (refine Or.inl ⟨by first | kernel_rfl | rfl, ?_⟩; intro w hSw; (try dsimp only at hSw); go_simp <;> (try with_reducible rfl))
  try simp only [Act.put, List.setIfInBounds_toArray, List.set_cons_zero, List.set_cons_succ]
  refine wpAnyH_take (i := 2) (oi := ?zao2) (v := ?zav2) ?zah2 (by kernel_rfl) (by kernel_rfl) (by kernel_rfl) ?zaq2 ?zay2 hHeld ?zar2
  case zah2 => (simp only [List.getElem?_toArray, List.getElem?_cons_succ, List.getElem?_cons_zero]; rfl)
  case zaq2 => exact fun _ _ _ h => h
  case zay2 => (refine Or.inl ⟨by first | kernel_rfl | rfl, ?_⟩; intro w hSw; (try dsimp only at hSw); go_simp <;> (try with_reducible rfl))
  try simp only [Act.put, List.setIfInBounds_toArray, List.set_cons_zero, List.set_cons_succ]
  refine wpAnyH_take (i := 3) (oi := ?zao3) (v := ?zav3) ?zah3 (by kernel_rfl) (by kernel_rfl) (by kernel_rfl) ?zaq3 ?zay3 hHeld ?zar3
  case zah3 => (simp only [List.getElem?_toArray, List.getElem?_cons_succ, List.getElem?_cons_zero]; rfl)
  case zaq3 => exact fun _ _ _ h => h
  case zay3 => (refine Or.inl ⟨by first | kernel_rfl | rfl, ?_⟩; intro w hSw; (try dsimp only at hSw); go_simp <;> (try with_reducible rfl))
  try simp only [Act.put, List.setIfInBounds_toArray, List.set_cons_zero, List.set_cons_succ]
  refine wpAnyH_take (i := 4) (oi := ?zao4) (v := ?zav4) ?zah4 (by kernel_rfl) (by kernel_rfl) (by kernel_rfl) ?zaq4 ?zay4 hHeld ?zar4
  case zah4 => (simp only [List.getElem?_toArray, List.getElem?_cons_succ, List.getElem?_cons_zero]; rfl)
  case zaq4 => exact fun _ _ _ h => h
  case zay4 => (refine Or.inl ⟨by first | kernel_rfl | rfl, ?_⟩; intro w hSw; (try dsimp only at hSw); go_simp <;> (try with_reducible rfl))
  try simp only [Act.put, List.setIfInBounds_toArray, List.set_cons_zero, List.set_cons_succ]
  refine wpAnyH_take (i := 5) (oi := ?zao5) (v := ?zav5) ?zah5 (by kernel_rfl) (by kernel_rfl) (by kernel_rfl) ?zaq5 ?zay5 hHeld ?zar5
  case zah5 => (simp only [List.getElem?_toArray, List.getElem?_cons_succ, List.getElem?_cons_zero]; rfl)
  case zaq5 => exact fun _ _ _ h => h
  case zay5 => (refine Or.inl ⟨by first | kernel_rfl | rfl, ?_⟩; intro w hSw; (try dsimp only at hSw); go_simp <;> (try with_reducible rfl))
  try simp only [Act.put, List.setIfInBounds_toArray, List.set_cons_zero, List.set_cons_succ]
  refine wpAnyH_take (i := 6) (oi := ?zao6) (v := ?zav6) ?zah6 (by kernel_rfl) (by kernel_rfl) (by kernel_rfl) ?zaq6 ?zay6 hHeld ?zar6
  case zah6 => (simp only [List.getElem?_toArray, List.getElem?_cons_succ, List.getElem?_cons_zero]; rfl)
  case zaq6 => exact fun _ _ _ h => h
  case zay6 => (refine Or.inl ⟨by first | kernel_rfl | rfl, ?_⟩; intro w hSw; (try dsimp only at hSw); go_simp <;> (try with_reducible rfl))
  try simp only [Act.put, List.setIfInBounds_toArray, List.set_cons_zero, List.set_cons_succ]
  refine wpAnyH_take (i := 7) (oi := ?zao7) (v := ?zav7) ?zah7 (by kernel_rfl) (by kernel_rfl) (by kernel_rfl) ?zaq7 ?zay7 hHeld ?zar7
  case zah7 => (simp only [List.getElem?_toArray, List.getElem?_cons_succ, List.getElem?_cons_zero]; rfl)
  case zaq7 => exact fun _ _ _ h => h
  case zay7 => (refine Or.inl ⟨by first | kernel_rfl | rfl, ?_⟩; intro w hSw; (try dsimp only at hSw); go_simp <;> (try with_reducible rfl))
  try simp only [Act.put, List.setIfInBounds_toArray, List.set_cons_zero, List.set_cons_succ]
  refine wpAnyH_ready (rs := [8]) (by kernel_rfl) (by simp) ?_
  refine AllReadyH.cons rfl (fun K hK => ?_) AllReadyH.nil
  go_simp
  ((with_reducible refine (hk _).mono ?_); rintro e w' ⟨rfl, hb'⟩)
  refine hK.out _ _ (rb_keep hb' hHeld) (fun hHeld => ?_)
  clear hK K
  try simp only [Act.put, List.setIfInBounds_toArray, List.set_cons_zero, List.set_cons_succ]
  refine wpAnyH_take (i := 9) (oi := ?zao9) (v := ?zav9) ?zah9 (by kernel_rfl) (by kernel_rfl) (by kernel_rfl) ?zaq9 ?zay9 hHeld ?zar9
  case zah9 => (simp only [List.getElem?_toArray, List.getElem?_cons_succ, List.getElem?_cons_zero]; rfl)
  case zaq9 => exact fun _ _ _ h => h
  case zay9 => (refine Or.inl ⟨by first | kernel_rfl | rfl, ?_⟩; intro w hSw; (try dsimp only at hSw); go_simp <;> (try with_reducible rfl))
  try simp only [Act.put, List.setIfInBounds_toArray, List.set_cons_zero, List.set_cons_succ]
  refine wpAnyH_take (i := 10) (oi := ?zao10) (v := ?zav10) ?zah10 (by kernel_rfl) (by kernel_rfl) (by kernel_rfl) ?zaq10 ?zay10 hHeld ?zar10
  case zah10 => (simp only [List.getElem?_toArray, List.getElem?_cons_succ, List.getElem?_cons_zero]; rfl)
  case zaq10 => exact fun _ _ _ h => h
  case zay10 => (refine Or.inl ⟨by first | kernel_rfl | rfl, ?_⟩; intro w hSw; (try dsimp only at hSw); go_simp <;> (try with_reducible rfl))
  try simp only [Act.put, List.setIfInBounds_toArray, List.set_cons_zero, List.set_cons_succ]
  refine wpAnyH_take (i := 11) (oi := ?zao11) (v := ?zav11) ?zah11 (by kernel_rfl) (by kernel_rfl) (by kernel_rfl) ?zaq11 ?zay11 hHeld ?zar11
  case zah11 => (simp only [List.getElem?_toArray, List.getElem?_cons_succ, List.getElem?_cons_zero]; rfl)
  case zaq11 => exact fun _ _ _ h => h
  case zay11 => (refine Or.inl ⟨by first | kernel_rfl | rfl, ?_⟩; intro w hSw; (try dsimp only at hSw); go_simp <;> (try with_reducible rfl))
  try simp only [Act.put, List.setIfInBounds_toArray, List.set_cons_zero, List.set_cons_succ]
  refine wpAnyH_take (i := 12) (oi := ?zao12) (v := ?zav12) ?zah12 (by kernel_rfl) (by kernel_rfl) (by kernel_rfl) ?zaq12 ?zay12 hHeld ?zar12
  case zah12 => (simp only [List.getElem?_toArray, List.getElem?_cons_succ, List.getElem?_cons_zero]; rfl)
  case zaq12 => exact fun _ _ _ h => h
  case zay12 => (refine Or.inl ⟨by first | kernel_rfl | rfl, ?_⟩; intro w hSw; (try dsimp only at hSw); go_simp <;> (try with_reducible rfl))
  try simp only [Act.put, List.setIfInBounds_toArray, List.set_cons_zero, List.set_cons_succ]
  refine wpAnyH_take (i := 13) (oi := ?zao13) (v := ?zav13) ?zah13 (by kernel_rfl) (by kernel_rfl) (by kernel_rfl) ?zaq13 ?zay13 hHeld ?zar13
  case zah13 => (simp only [List.getElem?_toArray, List.getElem?_cons_succ, List.getElem?_cons_zero]; rfl)
  case zaq13 => exact fun _ _ _ h => h
  case zay13 => (refine Or.inl ⟨by first | kernel_rfl | rfl, ?_⟩; intro w hSw; (try dsimp only at hSw); go_simp <;> (try with_reducible rfl))
  try simp only [Act.put, List.setIfInBounds_toArray, List.set_cons_zero, List.set_cons_succ]
  refine wpAnyH_take (i := 14) (oi := ?zao14) (v := ?zav14) ?zah14 (by kernel_rfl) (by kernel_rfl) (by kernel_rfl) ?zaq14 ?zay14 hHeld ?zar14
  case zah14 => (simp only [List.getElem?_toArray, List.getElem?_cons_succ, List.getElem?_cons_zero]; rfl)
  case zaq14 => exact fun _ _ _ h => h
  case zay14 => (refine Or.inl ⟨by first | kernel_rfl | rfl, ?_⟩; intro w hSw; (try dsimp only at hSw); go_simp <;> (try with_reducible rfl))
  try simp only [Act.put, List.setIfInBounds_toArray, List.set_cons_zero, List.set_cons_succ]
  refine wpAnyH_take (i := 15) (oi := ?zao15) (v := ?zav15) ?zah15 (by kernel_rfl) (by kernel_rfl) (by kernel_rfl) ?zaq15 ?zay15 hHeld ?zar15
  case zah15 => (simp only [List.getElem?_toArray, List.getElem?_cons_succ, List.getElem?_cons_zero]; rfl)
  case zaq15 => exact fun _ _ _ h => h
  case zay15 => (refine Or.inl ⟨by first | kernel_rfl | rfl, ?_⟩; intro w hSw; (try dsimp only at hSw); go_simp <;> (try with_reducible rfl))
  try simp only [Act.put, List.setIfInBounds_toArray, List.set_cons_zero, List.set_cons_succ]
  refine wpAnyH_done (by kernel_rfl) ?_ _
  obtain ⟨c0, c1, c2, f0, f1, f2, hbel⟩ := hHeld
  go_wp2
  go_ret
  exact ⟨rfl, ⟨by simp [go_sem, c0], by simp [go_sem, c1], by simp [go_sem, c2], by simp [go_sem, f0], by simp [go_sem, f1], by simp [go_sem, f2]⟩, (But.of hbel).setCell _ _⟩
set_option maxHeartbeats 2000000 in
theorem rnum_none (d a : Nat) (S : ByteArray) (w : World) (hs : S.size ≤ 100000) (ha : a ≤ S.size) (hg : Hid (getR S.data.toList (a : Int) = (0, 0, 10))) (h : RB w d S a false) :
    Calls Tryd.prog 94 #[.pointer (some ⟨d, 0, none⟩)] w (RTook d (.int .u64 0) S a true w) := by
  have hk := fun w => refGet_is S (a : Int) 0 0 10 w (by unfold maxLen; omega) (by omega) (by omega) hg
  clear hg
  obtain ⟨c0, c1, c2, f0, f1, f2⟩ := h
  go_enter Tryd.func94, Tryd.ntmps94
  go_wp2_with fail
  refine wp_region_held_drew (S := (fun w' => w'.cell? ⟨d, 0, none⟩ = some (.string S) ∧ w'.cell? ⟨d, 1, none⟩ = some (.int .i64 (a : Int)) ∧ w'.cell? ⟨d, 2, none⟩ = some (.bool false) ∧ w'.frozen? ⟨d, 0, none⟩ = false ∧ w'.frozen? ⟨d, 1, none⟩ = false ∧ w'.frozen? ⟨d, 2, none⟩ = false ∧ Below w.heap.size w w')) (by kernel_rfl) ⟨c0, c1, c2, f0, f1, f2, (Below.refl _ _).drew⟩ (fun hHeld => ?_)
  refine wpAnyH_take (i := 0) (oi := ?zbo0) (v := ?zbv0) ?zbh0 (by kernel_rfl) (by kernel_rfl) (by kernel_rfl) ?zbq0 ?zby0 hHeld ?zbr0
  case zbh0 => (simp only [List.getElem?_toArray, List.getElem?_cons_zero]; rfl)
  case zbq0 => exact fun _ _ _ h => h
  case zby0 => (refine Or.inl ⟨by first | kernel_rfl | rfl, ?_⟩; intro w hSw; (try dsimp only at hSw); go_simp <;> (try with_reducible rfl))
  try simp only [Act.put, List.setIfInBounds_toArray, List.set_cons_zero, List.set_cons_succ]
  refine wpAnyH_take (i := 1) (oi := ?zbo1) (v := ?zbv1) ?zbh1 (by kernel_rfl) (by kernel_rfl) (by kernel_rfl) ?zbq1 ?zby1 hHeld ?zbr1
  case zbh1 => (simp only [List.getElem?_toArray, List.getElem?_cons_succ, List.getElem?_cons_zero]; rfl)
  case zbq1 => exact fun _ _ _ h => h
  case zby1 => (refine Or.inl ⟨by first | kernel_rfl | rfl, ?_⟩; intro w hSw; (try dsimp only at hSw); go_simp <;> (try with_reducible rfl))
  try simp only [Act.put, List.setIfInBounds_toArray, List.set_cons_zero, List.set_cons_succ]
  refine wpAnyH_take (i := 2) (oi := ?zbo2) (v := ?zbv2) ?zbh2 (by kernel_rfl) (by kernel_rfl) (by kernel_rfl) ?zbq2 ?zby2 hHeld ?zbr2
  case zbh2 => (simp only [List.getElem?_toArray, List.getElem?_cons_succ, List.getElem?_cons_zero]; rfl)
  case zbq2 => exact fun _ _ _ h => h
  case zby2 => (refine Or.inl ⟨by first | kernel_rfl | rfl, ?_⟩; intro w hSw; (try dsimp only at hSw); go_simp <;> (try with_reducible rfl))
  try simp only [Act.put, List.setIfInBounds_toArray, List.set_cons_zero, List.set_cons_succ]
  refine wpAnyH_take (i := 3) (oi := ?zbo3) (v := ?zbv3) ?zbh3 (by kernel_rfl) (by kernel_rfl) (by kernel_rfl) ?zbq3 ?zby3 hHeld ?zbr3
  case zbh3 => (simp only [List.getElem?_toArray, List.getElem?_cons_succ, List.getElem?_cons_zero]; rfl)
  case zbq3 => exact fun _ _ _ h => h
  case zby3 => (refine Or.inl ⟨by first | kernel_rfl | rfl, ?_⟩; intro w hSw; (try dsimp only at hSw); go_simp <;> (try with_reducible rfl))
  try simp only [Act.put, List.setIfInBounds_toArray, List.set_cons_zero, List.set_cons_succ]
  refine wpAnyH_take (i := 4) (oi := ?zbo4) (v := ?zbv4) ?zbh4 (by kernel_rfl) (by kernel_rfl) (by kernel_rfl) ?zbq4 ?zby4 hHeld ?zbr4
  case zbh4 => (simp only [List.getElem?_toArray, List.getElem?_cons_succ, List.getElem?_cons_zero]; rfl)
  case zbq4 => exact fun _ _ _ h => h
  case zby4 => (refine Or.inl ⟨by first | kernel_rfl | rfl, ?_⟩; intro w hSw; (try dsimp only at hSw); go_simp <;> (try with_reducible rfl))
  try simp only [Act.put, List.setIfInBounds_toArray, List.set_cons_zero, List.set_cons_succ]
  refine wpAnyH_take (i := 5) (oi := ?zbo5) (v := ?zbv5) ?zbh5 (by kernel_rfl) (by kernel_rfl) (by kernel_rfl) ?zbq5 ?zby5 hHeld ?zbr5
  case zbh5 => (simp only [List.getElem?_toArray, List.getElem?_cons_succ, List.getElem?_cons_zero]; rfl)
  case zbq5 => exact fun _ _ _ h => h
  case zby5 => (refine Or.inl ⟨by first | kernel_rfl | rfl, ?_⟩; intro w hSw; (try dsimp only at hSw); go_simp <;> (try with_reducible rfl))
  try simp only [Act.put, List.setIfInBounds_toArray, List.set_cons_zero, List.set_cons_succ]
  refine wpAnyH_take (i := 6) (oi := ?zbo6) (v := ?zbv6) ?zbh6 (by kernel_rfl) (by kernel_rfl) (by kernel_rfl) ?zbq6 ?zby6 hHeld ?zbr6
  case zbh6 => (simp only [List.getElem?_toArray, List.getElem?_cons_succ, List.getElem?_cons_zero]; rfl)
  case zbq6 => exact fun _ _ _ h => h
  case zby6 => (refine Or.inl ⟨by first | kernel_rfl | rfl, ?_⟩; intro w hSw; (try dsimp only at hSw); go_simp <;> (try with_reducible rfl))
  try simp only [Act.put, List.setIfInBounds_toArray, List.set_cons_zero, List.set_cons_succ]
  refine wpAnyH_take (i := 7) (oi := ?zbo7) (v := ?zbv7) ?zbh7 (by kernel_rfl) (by kernel_rfl) (by kernel_rfl) ?zbq7 ?zby7 hHeld ?zbr7
  case zbh7 => (simp only [List.getElem?_toArray, List.getElem?_cons_succ, List.getElem?_cons_zero]; rfl)
  case zbq7 => exact fun _ _ _ h => h
  case zby7 => (refine Or.inl ⟨by first | kernel_rfl | rfl, ?_⟩; intro w hSw; (try dsimp only at hSw); go_simp <;> (try with_reducible rfl))
  try simp only [Act.put, List.setIfInBounds_toArray, List.set_cons_zero, List.set_cons_succ]
  refine wpAnyH_ready (rs := [8]) (by kernel_rfl) (by simp) ?_
  refine AllReadyH.cons rfl (fun K hK => ?_) AllReadyH.nil
  go_simp
  ((with_reducible refine (hk _).mono ?_); rintro e w' ⟨rfl, hb'⟩)
  refine hK.out _ _ (rb_keep hb' hHeld) (fun hHeld => ?_)
  clear hK K
  try simp only [Act.put, List.setIfInBounds_toArray, List.set_cons_zero, List.set_cons_succ]
  refine wpAnyH_take (i := 9) (oi := ?zbo9) (v := ?zbv9) ?zbh9 (by kernel_rfl) (by kernel_rfl) (by kernel_rfl) ?zbq9 ?zby9 hHeld ?zbr9
  case zbh9 => (simp only [List.getElem?_toArray, List.getElem?_cons_succ, List.getElem?_cons_zero]; rfl)
  case zbq9 => exact fun _ _ _ h => h
  case zby9 => (refine Or.inl ⟨by first | kernel_rfl | rfl, ?_⟩; intro w hSw; (try dsimp only at hSw); go_simp <;> (try with_reducible rfl))
  try simp only [Act.put, List.setIfInBounds_toArray, List.set_cons_zero, List.set_cons_succ]
  refine wpAnyH_take (i := 10) (oi := ?zbo10) (v := ?zbv10) ?zbh10 (by kernel_rfl) (by kernel_rfl) (by kernel_rfl) ?zbq10 ?zby10 hHeld ?zbr10
  case zbh10 => (simp only [List.getElem?_toArray, List.getElem?_cons_succ, List.getElem?_cons_zero]; rfl)
  case zbq10 => exact fun _ _ _ h => h
  case zby10 => (refine Or.inl ⟨by first | kernel_rfl | rfl, ?_⟩; intro w hSw; (try dsimp only at hSw); go_simp <;> (try with_reducible rfl))
  try simp only [Act.put, List.setIfInBounds_toArray, List.set_cons_zero, List.set_cons_succ]
  refine wpAnyH_take (i := 11) (oi := ?zbo11) (v := ?zbv11) ?zbh11 (by kernel_rfl) (by kernel_rfl) (by kernel_rfl) ?zbq11 ?zby11 hHeld ?zbr11
  case zbh11 => (simp only [List.getElem?_toArray, List.getElem?_cons_succ, List.getElem?_cons_zero]; rfl)
  case zbq11 => exact fun _ _ _ h => h
  case zby11 => (refine Or.inl ⟨by first | kernel_rfl | rfl, ?_⟩; intro w hSw; (try dsimp only at hSw); go_simp <;> (try with_reducible rfl))
  try simp only [Act.put, List.setIfInBounds_toArray, List.set_cons_zero, List.set_cons_succ]
  refine wpAnyH_take (i := 12) (oi := ?zbo12) (v := ?zbv12) ?zbh12 (by kernel_rfl) (by kernel_rfl) (by kernel_rfl) ?zbq12 ?zby12 hHeld ?zbr12
  case zbh12 => (simp only [List.getElem?_toArray, List.getElem?_cons_succ, List.getElem?_cons_zero]; rfl)
  case zbq12 => exact fun _ _ _ h => h
  case zby12 => (refine Or.inl ⟨by first | kernel_rfl | rfl, ?_⟩; intro w hSw; (try dsimp only at hSw); go_simp <;> (try with_reducible rfl))
  try simp only [Act.put, List.setIfInBounds_toArray, List.set_cons_zero, List.set_cons_succ]
  refine wpAnyH_take (i := 13) (oi := ?zbo13) (v := ?zbv13) ?zbh13 (by kernel_rfl) (by kernel_rfl) (by kernel_rfl) ?zbq13 ?zby13 hHeld ?zbr13
  case zbh13 => (simp only [List.getElem?_toArray, List.getElem?_cons_succ, List.getElem?_cons_zero]; rfl)
  case zbq13 => exact fun _ _ _ h => h
  case zby13 => (refine Or.inl ⟨by first | kernel_rfl | rfl, ?_⟩; intro w hSw; (try dsimp only at hSw); go_simp <;> (try with_reducible rfl))
  try simp only [Act.put, List.setIfInBounds_toArray, List.set_cons_zero, List.set_cons_succ]
  refine wpAnyH_take (i := 14) (oi := ?zbo14) (v := ?zbv14) ?zbh14 (by kernel_rfl) (by kernel_rfl) (by kernel_rfl) ?zbq14 ?zby14 hHeld ?zbr14
  case zbh14 => (simp only [List.getElem?_toArray, List.getElem?_cons_succ, List.getElem?_cons_zero]; rfl)
  case zbq14 => exact fun _ _ _ h => h
  case zby14 => (refine Or.inl ⟨by first | kernel_rfl | rfl, ?_⟩; intro w hSw; (try dsimp only at hSw); go_simp <;> (try with_reducible rfl))
  try simp only [Act.put, List.setIfInBounds_toArray, List.set_cons_zero, List.set_cons_succ]
  refine wpAnyH_take (i := 15) (oi := ?zbo15) (v := ?zbv15) ?zbh15 (by kernel_rfl) (by kernel_rfl) (by kernel_rfl) ?zbq15 ?zby15 hHeld ?zbr15
  case zbh15 => (simp only [List.getElem?_toArray, List.getElem?_cons_succ, List.getElem?_cons_zero]; rfl)
  case zbq15 => exact fun _ _ _ h => h
  case zby15 => (refine Or.inl ⟨by first | kernel_rfl | rfl, ?_⟩; intro w hSw; (try dsimp only at hSw); go_simp <;> (try with_reducible rfl))
  try simp only [Act.put, List.setIfInBounds_toArray, List.set_cons_zero, List.set_cons_succ]
  refine wpAnyH_done (by kernel_rfl) ?_ _
  obtain ⟨c0, c1, c2, f0, f1, f2, hbel⟩ := hHeld
  go_wp2
  go_ret
  exact ⟨rfl, ⟨by simp [go_sem, c0], by simp [go_sem, c1], by simp [go_sem, c2], by simp [go_sem, f0], by simp [go_sem, f1], by simp [go_sem, f2]⟩, (But.of hbel).setCell _ _⟩
set_option maxHeartbeats 2000000 in
theorem rnum_some (d a q : Nat) (v : Int) (S : ByteArray) (w : World) (hs : S.size ≤ 100000) (ha : a ≤ S.size) (hg : Hid (getR S.data.toList (a : Int) = (v, (q : Int), 0))) (h : RB w d S a false) :
    Calls Tryd.prog 94 #[.pointer (some ⟨d, 0, none⟩)] w (RTook d (.int .u64 v) S q false w) := by
  have hk := fun w => refGet_is S (a : Int) v q 0 w (by unfold maxLen; omega) (by omega) (by omega) hg
  clear hg
  obtain ⟨c0, c1, c2, f0, f1, f2⟩ := h
  go_enter Tryd.func94, Tryd.ntmps94
  go_wp2_with fail
  refine wp_region_held_drew (S := (fun w' => w'.cell? ⟨d, 0, none⟩ = some (.string S) ∧ w'.cell? ⟨d, 1, none⟩ = some (.int .i64 (a : Int)) ∧ w'.cell? ⟨d, 2, none⟩ = some (.bool false) ∧ w'.frozen? ⟨d, 0, none⟩ = false ∧ w'.frozen? ⟨d, 1, none⟩ = false ∧ w'.frozen? ⟨d, 2, none⟩ = false ∧ Below w.heap.size w w')) (by kernel_rfl) ⟨c0, c1, c2, f0, f1, f2, (Below.refl _ _).drew⟩ (fun hHeld => ?_)
  refine wpAnyH_take (i := 0) (oi := ?zco0) (v := ?zcv0) ?zch0 (by kernel_rfl) (by kernel_rfl) (by kernel_rfl) ?zcq0 ?zcy0 hHeld ?zcr0
  case zch0 => (simp only [List.getElem?_toArray, List.getElem?_cons_zero]; rfl)
  case zcq0 => exact fun _ _ _ h => h
  case zcy0 => (refine Or.inl ⟨by first | kernel_rfl | rfl, ?_⟩; intro w hSw; (try dsimp only at hSw); go_simp <;> (try with_reducible rfl))
  try simp only [Act.put, List.setIfInBounds_toArray, List.set_cons_zero, List.set_cons_succ]
  refine wpAnyH_take (i := 1) (oi := ?zco1) (v := ?zcv1) ?zch1 (by kernel_rfl) (by kernel_rfl) (by kernel_rfl) ?zcq1 ?zcy1 hHeld ?zcr1
  case zch1 => (simp only [List.getElem?_toArray, List.getElem?_cons_succ, List.getElem?_cons_zero]; rfl)
  case zcq1 => exact fun _ _ _ h => h
  case zcy1 => (refine Or.inl ⟨by first | kernel_rfl | rfl, ?_⟩; intro w hSw; (try dsimp only at hSw); go_simp <;> (try with_reducible rfl))
  try simp only [Act.put, List.setIfInBounds_toArray, List.set_cons_zero, List.set_cons_succ]
  refine wpAnyH_take (i := 2) (oi := ?zco2) (v := ?zcv2) ?zch2 (by kernel_rfl) (by kernel_rfl) (by kernel_rfl) ?zcq2 ?zcy2 hHeld ?zcr2
  case zch2 => (simp only [List.getElem?_toArray, List.getElem?_cons_succ, List.getElem?_cons_zero]; rfl)
  case zcq2 => exact fun _ _ _ h => h
  case zcy2 => (refine Or.inl ⟨by first | kernel_rfl | rfl, ?_⟩; intro w hSw; (try dsimp only at hSw); go_simp <;> (try with_reducible rfl))
  try simp only [Act.put, List.setIfInBounds_toArray, List.set_cons_zero, List.set_cons_succ]
  refine wpAnyH_take (i := 3) (oi := ?zco3) (v := ?zcv3) ?zch3 (by kernel_rfl) (by kernel_rfl) (by kernel_rfl) ?zcq3 ?zcy3 hHeld ?zcr3
  case zch3 => (simp only [List.getElem?_toArray, List.getElem?_cons_succ, List.getElem?_cons_zero]; rfl)
  case zcq3 => exact fun _ _ _ h => h
  case zcy3 => (refine Or.inl ⟨by first | kernel_rfl | rfl, ?_⟩; intro w hSw; (try dsimp only at hSw); go_simp <;> (try with_reducible rfl))
  try simp only [Act.put, List.setIfInBounds_toArray, List.set_cons_zero, List.set_cons_succ]
  refine wpAnyH_take (i := 4) (oi := ?zco4) (v := ?zcv4) ?zch4 (by kernel_rfl) (by kernel_rfl) (by kernel_rfl) ?zcq4 ?zcy4 hHeld ?zcr4
  case zch4 => (simp only [List.getElem?_toArray, List.getElem?_cons_succ, List.getElem?_cons_zero]; rfl)
  case zcq4 => exact fun _ _ _ h => h
  case zcy4 => (refine Or.inl ⟨by first | kernel_rfl | rfl, ?_⟩; intro w hSw; (try dsimp only at hSw); go_simp <;> (try with_reducible rfl))
  try simp only [Act.put, List.setIfInBounds_toArray, List.set_cons_zero, List.set_cons_succ]
  refine wpAnyH_take (i := 5) (oi := ?zco5) (v := ?zcv5) ?zch5 (by kernel_rfl) (by kernel_rfl) (by kernel_rfl) ?zcq5 ?zcy5 hHeld ?zcr5
  case zch5 => (simp only [List.getElem?_toArray, List.getElem?_cons_succ, List.getElem?_cons_zero]; rfl)
  case zcq5 => exact fun _ _ _ h => h
  case zcy5 => (refine Or.inl ⟨by first | kernel_rfl | rfl, ?_⟩; intro w hSw; (try dsimp only at hSw); go_simp <;> (try with_reducible rfl))
  try simp only [Act.put, List.setIfInBounds_toArray, List.set_cons_zero, List.set_cons_succ]
  refine wpAnyH_take (i := 6) (oi := ?zco6) (v := ?zcv6) ?zch6 (by kernel_rfl) (by kernel_rfl) (by kernel_rfl) ?zcq6 ?zcy6 hHeld ?zcr6
  case zch6 => (simp only [List.getElem?_toArray, List.getElem?_cons_succ, List.getElem?_cons_zero]; rfl)
  case zcq6 => exact fun _ _ _ h => h
  case zcy6 => (refine Or.inl ⟨by first | kernel_rfl | rfl, ?_⟩; intro w hSw; (try dsimp only at hSw); go_simp <;> (try with_reducible rfl))
  try simp only [Act.put, List.setIfInBounds_toArray, List.set_cons_zero, List.set_cons_succ]
  refine wpAnyH_take (i := 7) (oi := ?zco7) (v := ?zcv7) ?zch7 (by kernel_rfl) (by kernel_rfl) (by kernel_rfl) ?zcq7 ?zcy7 hHeld ?zcr7
  case zch7 => (simp only [List.getElem?_toArray, List.getElem?_cons_succ, List.getElem?_cons_zero]; rfl)
  case zcq7 => exact fun _ _ _ h => h
  case zcy7 => (refine Or.inl ⟨by first | kernel_rfl | rfl, ?_⟩; intro w hSw; (try dsimp only at hSw); go_simp <;> (try with_reducible rfl))
  try simp only [Act.put, List.setIfInBounds_toArray, List.set_cons_zero, List.set_cons_succ]
  refine wpAnyH_ready (rs := [8]) (by kernel_rfl) (by simp) ?_
  refine AllReadyH.cons rfl (fun K hK => ?_) AllReadyH.nil
  go_simp
  ((with_reducible refine (hk _).mono ?_); rintro e w' ⟨rfl, hb'⟩)
  refine hK.out _ _ (rb_keep hb' hHeld) (fun hHeld => ?_)
  clear hK K
  try simp only [Act.put, List.setIfInBounds_toArray, List.set_cons_zero, List.set_cons_succ]
  refine wpAnyH_take (i := 9) (oi := ?zco9) (v := ?zcv9) ?zch9 (by kernel_rfl) (by kernel_rfl) (by kernel_rfl) ?zcq9 ?zcy9 hHeld ?zcr9
  case zch9 => (simp only [List.getElem?_toArray, List.getElem?_cons_succ, List.getElem?_cons_zero]; rfl)
  case zcq9 => exact fun _ _ _ h => h
  case zcy9 => (refine Or.inl ⟨by first | kernel_rfl | rfl, ?_⟩; intro w hSw; (try dsimp only at hSw); go_simp <;> (try with_reducible rfl))
  try simp only [Act.put, List.setIfInBounds_toArray, List.set_cons_zero, List.set_cons_succ]
  refine wpAnyH_take (i := 10) (oi := ?zco10) (v := ?zcv10) ?zch10 (by kernel_rfl) (by kernel_rfl) (by kernel_rfl) ?zcq10 ?zcy10 hHeld ?zcr10
  case zch10 => (simp only [List.getElem?_toArray, List.getElem?_cons_succ, List.getElem?_cons_zero]; rfl)
  case zcq10 => exact fun _ _ _ h => h
  case zcy10 => (refine Or.inl ⟨by first | kernel_rfl | rfl, ?_⟩; intro w hSw; (try dsimp only at hSw); go_simp <;> (try with_reducible rfl))
  try simp only [Act.put, List.setIfInBounds_toArray, List.set_cons_zero, List.set_cons_succ]
  refine wpAnyH_take (i := 11) (oi := ?zco11) (v := ?zcv11) ?zch11 (by kernel_rfl) (by kernel_rfl) (by kernel_rfl) ?zcq11 ?zcy11 hHeld ?zcr11
  case zch11 => (simp only [List.getElem?_toArray, List.getElem?_cons_succ, List.getElem?_cons_zero]; rfl)
  case zcq11 => exact fun _ _ _ h => h
  case zcy11 => (refine Or.inl ⟨by first | kernel_rfl | rfl, ?_⟩; intro w hSw; (try dsimp only at hSw); go_simp <;> (try with_reducible rfl))
  try simp only [Act.put, List.setIfInBounds_toArray, List.set_cons_zero, List.set_cons_succ]
  refine wpAnyH_take (i := 12) (oi := ?zco12) (v := ?zcv12) ?zch12 (by kernel_rfl) (by kernel_rfl) (by kernel_rfl) ?zcq12 ?zcy12 hHeld ?zcr12
  case zch12 => (simp only [List.getElem?_toArray, List.getElem?_cons_succ, List.getElem?_cons_zero]; rfl)
  case zcq12 => exact fun _ _ _ h => h
  case zcy12 => (refine Or.inl ⟨by first | kernel_rfl | rfl, ?_⟩; intro w hSw; (try dsimp only at hSw); go_simp <;> (try with_reducible rfl))
  try simp only [Act.put, List.setIfInBounds_toArray, List.set_cons_zero, List.set_cons_succ]
  refine wpAnyH_take (i := 13) (oi := ?zco13) (v := ?zcv13) ?zch13 (by kernel_rfl) (by kernel_rfl) (by kernel_rfl) ?zcq13 ?zcy13 hHeld ?zcr13
  case zch13 => (simp only [List.getElem?_toArray, List.getElem?_cons_succ, List.getElem?_cons_zero]; rfl)
  case zcq13 => exact fun _ _ _ h => h
  case zcy13 => (refine Or.inl ⟨by first | kernel_rfl | rfl, ?_⟩; intro w hSw; (try dsimp only at hSw); go_simp <;> (try with_reducible rfl))
  try simp only [Act.put, List.setIfInBounds_toArray, List.set_cons_zero, List.set_cons_succ]
  refine wpAnyH_take (i := 14) (oi := ?zco14) (v := ?zcv14) ?zch14 (by kernel_rfl) (by kernel_rfl) (by kernel_rfl) ?zcq14 ?zcy14 hHeld ?zcr14
  case zch14 => (simp only [List.getElem?_toArray, List.getElem?_cons_succ, List.getElem?_cons_zero]; rfl)
  case zcq14 => exact fun _ _ _ h => h
  case zcy14 => (refine Or.inl ⟨by first | kernel_rfl | rfl, ?_⟩; intro w hSw; (try dsimp only at hSw); go_simp <;> (try with_reducible rfl))
  try simp only [Act.put, List.setIfInBounds_toArray, List.set_cons_zero, List.set_cons_succ]
  refine wpAnyH_take (i := 15) (oi := ?zco15) (v := ?zcv15) ?zch15 (by kernel_rfl) (by kernel_rfl) (by kernel_rfl) ?zcq15 ?zcy15 hHeld ?zcr15
  case zch15 => (simp only [List.getElem?_toArray, List.getElem?_cons_succ, List.getElem?_cons_zero]; rfl)
  case zcq15 => exact fun _ _ _ h => h
  case zcy15 => (refine Or.inl ⟨by first | kernel_rfl | rfl, ?_⟩; intro w hSw; (try dsimp only at hSw); go_simp <;> (try with_reducible rfl))
  try simp only [Act.put, List.setIfInBounds_toArray, List.set_cons_zero, List.set_cons_succ]
  refine wpAnyH_done (by kernel_rfl) ?_ _
  obtain ⟨c0, c1, c2, f0, f1, f2, hbel⟩ := hHeld
  go_wp2
  go_ret
  exact ⟨rfl, ⟨by simp [go_sem, c0], by simp [go_sem, c1], by simp [go_sem, c2], by simp [go_sem, f0], by simp [go_sem, f1], by simp [go_sem, f2]⟩, (But.of hbel).setCell _ _⟩
end Go.Proofs.YtkomfenjeoaelaaDoor

/- The methods of the document's Reader, held against what is left of the text: the same answers as those of package vint's. -/
namespace Go.Proofs.YtkomfenjeoaelaaDoor
open Go.RowKit Go.Proofs.YtkomfenjeoaelaaDoor.Vi

/-- The document's reader of S at a, broken or not, has r left. -/
def Same (S : ByteArray) (a : Nat) (bad : Bool) (r : ByteArray) (br : Bool) : Prop := bad = br ∧ a ≤ S.size ∧ (br = false → r = restB S a) ∧ (br = true → r = ⟨#[]⟩)
/-- The document's reader lies in block d, reads S, and has r left. -/
def RS (w : World) (d : Nat) (S r : ByteArray) (br : Bool) : Prop := ∃ a bad, RB w d S a bad ∧ Same S a bad r br
/-- A method's answer, and what is left then. -/
def RDone (d : Nat) (v : Value) (S r : ByteArray) (br : Bool) (w : World) (e : Ending) (w' : World) : Prop := e = .returned v ∧ RS w' d S r br ∧ But d w w'
theorem RS.room {w : World} {d : Nat} {S r : ByteArray} {br : Bool} (h : RS w d S r br) : d < w.heap.size := by
  obtain ⟨a, bad, h, _⟩ := h; exact h.room
theorem RS.but {w w' : World} {d b : Nat} {S r : ByteArray} {br : Bool} (h : RS w d S r br) (k : But b w w') (hd : d ≠ b) : RS w' d S r br := by
  obtain ⟨a, bad, h, s⟩ := h; exact ⟨a, bad, h.but k hd, s⟩

theorem restB_list (S : ByteArray) (a : Nat) : (restB S a).data.toList = S.data.toList.drop a := by
  unfold restB
  simp [ByteArray.data_extract]
  exact List.take_of_length_le (by simp)
theorem list_inj {s t : ByteArray} (h : s.data.toList = t.data.toList) : s = t := ByteArray.ext (Array.toList_inj.1 h)
theorem restB_restB (S : ByteArray) (a m : Nat) : restB (restB S a) m = restB S (a + m) := by
  apply list_inj
  rw [restB_list, restB_list, restB_list, List.drop_drop]
theorem restB_take (S : ByteArray) (a n : Nat) : (restB S a).extract 0 n = S.extract a (a + n) := by
  apply list_inj
  have := restB_list S a
  simp [ByteArray.data_extract] at this ⊢
  rw [this]

theorem rnum_is (d : Nat) (S r r' : ByteArray) (br br' : Bool) (v : Int) (w : World) (hs : S.size ≤ 100000) (H : Hid (numQ r br = (v, r', br'))) (h : RS w d S r br) :
    Calls Tryd.prog 94 #[.pointer (some ⟨d, 0, none⟩)] w (RDone d (.int .u64 v) S r' br' w) := by
  obtain ⟨a, bad, h, rfl, ha, hr, hn⟩ := h
  have H := H.out
  unfold numQ at H
  cases bad with
  | true =>
    rw [if_pos rfl] at H
    simp at H
    obtain ⟨rfl, rfl, rfl⟩ := H
    exact (rnum_bad d a S w hs ha h).mono fun e w' ⟨h1, h2, h3⟩ => ⟨h1, ⟨a, true, h2, rfl, ha, fun e => (by cases e), hn⟩, h3⟩
  | false =>
    rw [if_neg (by simp)] at H
    have hr := hr rfl
    subst hr
    cases hf : numF (restB S a) with
    | none =>
      rw [hf] at H
      simp at H
      obtain ⟨rfl, rfl, rfl⟩ := H
      have hg := numF_none hf
      rw [restB_list] at hg
      have hR : getR S.data.toList (a : Int) = (0, 0, 10) := by
        unfold getR
        rw [if_neg (by omega), Int.toNat_natCast, hg]
      exact (rnum_none d a S w hs ha hR h).mono fun e w' ⟨h1, h2, h3⟩ => ⟨h1, ⟨a, true, h2, rfl, ha, fun e => (by cases e), fun _ => rfl⟩, h3⟩
    | some x =>
      obtain ⟨u, r1⟩ := x
      rw [hf] at H
      simp at H
      obtain ⟨rfl, rfl, rfl⟩ := H
      obtain ⟨m, hg, rfl⟩ := numF_some hf
      rw [restB_list] at hg
      have hb := (getL_bounds hg).2.2
      rw [List.length_drop] at hb
      have hsz : S.data.toList.length = S.size := by simp
      have hR : getR S.data.toList (a : Int) = ((u : Int), ((a + m : Nat) : Int), 0) := by
        unfold getR
        rw [if_neg (by omega), Int.toNat_natCast, hg]; simp
      exact (rnum_some d a (a + m) u S w hs ha hR h).mono fun e w' ⟨h1, h2, h3⟩ => ⟨h1, ⟨a + m, false, h2, rfl, by omega, fun _ => restB_restB S a m, fun e => (by cases e)⟩, h3⟩

theorem rint_is (d : Nat) (S r r' : ByteArray) (br br' : Bool) (v z : Int) (w : World) (hs : S.size ≤ 100000) (H : Hid (numQ r br = (v, r', br'))) (hz : Hid (zag v = z)) (h : RS w d S r br) :
    Calls Tryd.prog 61 #[.pointer (some ⟨d, 0, none⟩)] w (RDone d (.int .i64 z) S r' br' w) := by
  have hk := rnum_is d S r r' br br' v w hs H h
  obtain ⟨h1, h2, _⟩ := numQ_bounds H.out
  have hg := fun w => refZag_any v w h1 h2
  rw [hz.out] at hg
  go_enter Tryd.func61, Tryd.ntmps61
  go_wp2_with (first
    | (go_at_call 94; (with_reducible refine hk.mono ?_); rintro e w1 ⟨rfl, hR, hB⟩)
    | (go_at_call 95; (with_reducible refine (hg _).mono ?_); rintro e w2 ⟨rfl, rfl⟩))
  go_ret
  exact ⟨rfl, hR, hB⟩

theorem rend_is (d : Nat) (S r : ByteArray) (br : Bool) (z : Int) (w : World) (H : Hid (endQ r br = z)) (h : RS w d S r br) :
    Calls Tryd.prog 63 #[.pointer (some ⟨d, 0, none⟩)] w fun e w' => e = .returned (.int .i64 z) ∧ ∃ n, w' = w.drewN n := by
  obtain ⟨a, bad, ⟨c0, c1, c2, f0, f1, f2⟩, rfl, ha, hr, hn⟩ := h
  have H := H.out
  unfold endQ at H
  cases bad with
  | true =>
    rw [if_pos rfl] at H
    subst H
    go_enter Tryd.func63, Tryd.ntmps63
    go_wp2_with fail
    go_quiet (fail)
    go_wp2
    go_ret
    exact ⟨rfl, _, rfl⟩
  | false =>
    rw [if_neg (by simp)] at H
    have hr := hr rfl
    subst hr
    rw [restB_size] at H
    by_cases he : S.size - a = 0
    · rw [if_pos he] at H
      subst H
      have e1 : decide (a < S.size) = false := by simp; omega
      clear he
      go_enter Tryd.func63, Tryd.ntmps63
      go_wp2_with fail
      go_quiet (fail)
      go_wp2
      go_ret
      exact ⟨rfl, _, rfl⟩
    · rw [if_neg he] at H
      subst H
      have e1 : a < S.size := by omega
      clear he
      go_enter Tryd.func63, Tryd.ntmps63
      go_wp2_with fail
      go_quiet (fail)
      go_wp2
      go_ret
      exact ⟨rfl, _, rfl⟩

theorem RB.spoil {w : World} {d a : Nat} {S : ByteArray} {bad : Bool} (h : RB w d S a bad) : RB (w.setCell ⟨d, 2, none⟩ (.bool true)) d S a true := by
  obtain ⟨c0, c1, c2, f0, f1, f2⟩ := h
  exact ⟨by simp [go_sem, c0], by simp [go_sem, c1], by simp [go_sem, c2], by simp [go_sem, f0], by simp [go_sem, f1], by simp [go_sem, f2]⟩

set_option maxHeartbeats 1000000 in
theorem rsmall_yes (d : Nat) (S r r' : ByteArray) (br : Bool) (v : Nat) (most : Int) (w : World) (hs : S.size ≤ 100000) (H : Hid (numQ r br = ((v : Int), r', false))) (h0 : 0 ≤ most) (h1 : most ≤ 9223372036854775807) (hv : (v : Int) ≤ most) (h : RS w d S r br) :
    Calls Tryd.prog 59 #[.pointer (some ⟨d, 0, none⟩), .int .i64 most] w (RDone d (.int .i64 (v : Int)) S r' false w) := by
  have hk := rnum_is d S r r' br false v w hs H h
  have e1 : IntKind.i64.wrap (v : Int) = (v : Int) := IntWalk.i64_in _ (by omega)
  clear H
  go_enter Tryd.func59, Tryd.ntmps59
  go_wp2_with (go_at_call 94; (with_reducible refine hk.mono ?_); rintro e w1 ⟨rfl, ⟨a, bad, hR, rfl, hS⟩, hB⟩; have hR0 := hR; obtain ⟨c0, c1, c2, f0, f1, f2⟩ := hR)
  go_ret
  exact ⟨rfl, ⟨a, false, hR0, rfl, hS.1, fun _ => hS.2.1 trivial, fun e => (by cases e)⟩, hB⟩
set_option maxHeartbeats 1000000 in
theorem rsmall_no (d : Nat) (S r r' : ByteArray) (br br' : Bool) (v : Int) (most : Int) (w : World) (hs : S.size ≤ 100000) (H : Hid (numQ r br = (v, r', br'))) (h1 : most ≤ 9223372036854775807) (hv : br' = true ∨ most < 0 ∨ most < v) (_hv0 : 0 ≤ v) (_hv1 : v ≤ 18446744073709551615) (h : RS w d S r br) :
    Calls Tryd.prog 59 #[.pointer (some ⟨d, 0, none⟩), .int .i64 most] w (RDone d (.int .i64 0) S ⟨#[]⟩ true w) := by
  have hk := rnum_is d S r r' br br' v w hs H h
  clear H
  by_cases h0 : 0 ≤ most
  · by_cases h2 : v ≤ most
    · obtain rfl : br' = true := by
        rcases hv with h | h
        · exact h
        · omega
      clear hv
      go_enter Tryd.func59, Tryd.ntmps59
      go_wp2_with (go_at_call 94; (with_reducible refine hk.mono ?_); rintro e w1 ⟨rfl, ⟨a, bad, hR, rfl, hS⟩, hB⟩; have hR0 := hR; obtain ⟨c0, c1, c2, f0, f1, f2⟩ := hR)
      go_ret
      exact ⟨rfl, ⟨a, true, hR0, rfl, hS.1, fun e => (by cases e), fun _ => rfl⟩, hB⟩
    · have h3 : most < v := by omega
      clear hv
      go_enter Tryd.func59, Tryd.ntmps59
      go_wp2_with (go_at_call 94; (with_reducible refine hk.mono ?_); rintro e w1 ⟨rfl, ⟨a, bad, hR, rfl, hS⟩, hB⟩; have hR0 := hR; obtain ⟨c0, c1, c2, f0, f1, f2⟩ := hR)
      go_ret
      exact ⟨rfl, ⟨a, true, hR0.spoil, rfl, hS.1, fun e => (by cases e), fun _ => rfl⟩, hB.setCell _ _⟩
  · have h3 : most < 0 := by omega
    clear hv
    go_enter Tryd.func59, Tryd.ntmps59
    go_wp2_with (go_at_call 94; (with_reducible refine hk.mono ?_); rintro e w1 ⟨rfl, ⟨a, bad, hR, rfl, hS⟩, hB⟩; have hR0 := hR; obtain ⟨c0, c1, c2, f0, f1, f2⟩ := hR)
    go_ret
    exact ⟨rfl, ⟨a, true, hR0.spoil, rfl, hS.1, fun e => (by cases e), fun _ => rfl⟩, hB.setCell _ _⟩
theorem rsmall_is (d : Nat) (S r r' : ByteArray) (br br' : Bool) (v most : Int) (w : World) (hs : S.size ≤ 100000) (h1 : most ≤ 9223372036854775807) (H : Hid (smallQ r br most = (v, r', br'))) (h : RS w d S r br) :
    Calls Tryd.prog 59 #[.pointer (some ⟨d, 0, none⟩), .int .i64 most] w (RDone d (.int .i64 v) S r' br' w) := by
  have H := H.out
  unfold smallQ at H
  cases br with
  | true =>
    rw [if_pos rfl] at H
    simp at H
    obtain ⟨rfl, rfl, rfl⟩ := H
    have hr : r = ⟨#[]⟩ := by
      obtain ⟨a, bad, _, _, _, _, hn⟩ := h; exact hn rfl
    have := rsmall_no d S r r true true 0 most w hs (Lib.hid (by unfold numQ; rw [if_pos rfl])) h1 (Or.inl rfl) (by omega) (by omega) h
    rwa [← hr] at this
  | false =>
    rw [if_neg (by simp)] at H
    cases hf : numF r with
    | none =>
      rw [hf] at H
      simp at H
      obtain ⟨rfl, rfl, rfl⟩ := H
      exact rsmall_no d S r ⟨#[]⟩ false true 0 most w hs (Lib.hid (by unfold numQ; rw [if_neg (by simp), hf])) h1 (Or.inl rfl) (by omega) (by omega) h
    | some x =>
      obtain ⟨u, r1⟩ := x
      rw [hf] at H
      simp only at H
      have hb := (numF_bounds hf).1
      have hn : numQ r false = ((u : Int), r1, false) := by unfold numQ; rw [if_neg (by simp), hf]
      by_cases hcnd : 0 ≤ most ∧ (u : Int) ≤ most
      · rw [if_pos hcnd] at H
        simp at H
        obtain ⟨rfl, rfl, rfl⟩ := H
        exact rsmall_yes d S r _ false u most w hs (Lib.hid hn) hcnd.1 h1 hcnd.2 h
      · rw [if_neg hcnd] at H
        simp at H
        obtain ⟨rfl, rfl, rfl⟩ := H
        exact rsmall_no d S r r1 false false u most w hs (Lib.hid hn) h1 (by omega) (by omega) (by omega) h

theorem RB.drawn {w : World} {d a : Nat} {S : ByteArray} {bad : Bool} (h : RB w d S a bad) (n : Nat) : RB (w.drewN n) d S a bad := h.below (below_drawn _ _)
theorem RB.moved {w : World} {d a : Nat} {S : ByteArray} {bad : Bool} (h : RB w d S a bad) (v : Nat) : RB (w.setCell ⟨d, 1, none⟩ (.int .i64 ((a : Int) + (v : Int)))) d S (a + v) bad := by
  obtain ⟨c0, c1, c2, f0, f1, f2⟩ := h
  exact ⟨by simp [go_sem, c0], by simp [go_sem, c1], by simp [go_sem, c2], by simp [go_sem, f0], by simp [go_sem, f1], by simp [go_sem, f2]⟩
theorem But.drawn {b : Nat} {w w1 : World} (h : But b w w1) (n : Nat) : But b w (w1.drewN n) := h.trans (But.of (below_drawn _ _))

set_option maxHeartbeats 1000000 in
theorem rtext_bad (d : Nat) (S r r' : ByteArray) (br : Bool) (v : Int) (w : World) (hs : S.size ≤ 100000) (H : Hid (numQ r br = (v, r', true))) (h : RS w d S r br) :
    Calls Tryd.prog 60 #[.pointer (some ⟨d, 0, none⟩)] w (RDone d (.string ⟨#[]⟩) S ⟨#[]⟩ true w) := by
  have hk := rnum_is d S r r' br true v w hs H h
  clear H
  go_enter Tryd.func60, Tryd.ntmps60
  go_wp2_with (go_at_call 94; (with_reducible refine hk.mono ?_); rintro e w1 ⟨rfl, ⟨a, bad, hR, rfl, hS⟩, hB⟩; have hR0 := hR; obtain ⟨c0, c1, c2, f0, f1, f2⟩ := hR)
  go_quiet (fail)
  go_wp2
  go_ret
  exact ⟨rfl, ⟨a, true, (hR0.drawn _).spoil, rfl, hS.1, fun e => (by cases e), fun _ => rfl⟩, (hB.drawn _).setCell _ _⟩
set_option maxHeartbeats 1000000 in
theorem rtext_no (d : Nat) (S r r' : ByteArray) (br : Bool) (v : Nat) (w : World) (hs : S.size ≤ 100000) (_hv0 : v < 18446744073709551616) (H : Hid (numQ r br = ((v : Int), r', false))) (hv : ¬ v ≤ r'.size) (h : RS w d S r br) :
    Calls Tryd.prog 60 #[.pointer (some ⟨d, 0, none⟩)] w (RDone d (.string ⟨#[]⟩) S ⟨#[]⟩ true w) := by
  have hk := rnum_is d S r r' br false v w hs H h
  clear H
  go_enter Tryd.func60, Tryd.ntmps60
  go_wp2_with (go_at_call 94; (with_reducible refine hk.mono ?_); rintro e w1 ⟨rfl, ⟨a, bad, hR, rfl, hS⟩, hB⟩; have hR0 := hR; obtain ⟨c0, c1, c2, f0, f1, f2⟩ := hR)
  obtain ⟨hS1, hS2, _⟩ := hS
  have hr := congrArg ByteArray.size (hS2 trivial)
  rw [restB_size] at hr
  have e1 : IntKind.i64.wrap ((S.size : Int) - (a : Int)) = (S.size : Int) - (a : Int) := IntWalk.i64_in _ (by omega)
  have e2 : IntKind.u64.wrap ((S.size : Int) - (a : Int)) = (S.size : Int) - (a : Int) := by rw [IntKind.wrap_u64]; omega
  have e3 : (S.size : Int) - (a : Int) < (v : Int) := by omega
  clear hr hv hS2
  go_quiet (fail)
  go_wp2
  go_ret
  exact ⟨rfl, ⟨a, true, (hR0.drawn _).spoil, rfl, hS1, fun e => (by cases e), fun _ => rfl⟩, (hB.drawn _).setCell _ _⟩
set_option maxHeartbeats 1000000 in
theorem rtext_yes (d : Nat) (S r r' t r2 : ByteArray) (br : Bool) (v : Nat) (w : World) (hs : S.size ≤ 100000) (H : Hid (numQ r br = ((v : Int), r', false))) (hv : v ≤ r'.size) (ht : Hid (r'.extract 0 v = t)) (hr2 : Hid (restB r' v = r2)) (h : RS w d S r br) :
    Calls Tryd.prog 60 #[.pointer (some ⟨d, 0, none⟩)] w (RDone d (.string t) S r2 false w) := by
  have hk := rnum_is d S r r' br false v w hs H h
  clear H
  go_enter Tryd.func60, Tryd.ntmps60
  go_wp2_with (go_at_call 94; (with_reducible refine hk.mono ?_); rintro e w1 ⟨rfl, ⟨a, bad, hR, rfl, hS⟩, hB⟩; have hR0 := hR; obtain ⟨c0, c1, c2, f0, f1, f2⟩ := hR)
  obtain ⟨hS1, hS2, _⟩ := hS
  have hS3 := hS2 trivial
  have hr := congrArg ByteArray.size hS3
  rw [restB_size] at hr
  rw [hS3] at ht hr2
  have ht' := ht.out
  rw [restB_take] at ht'
  have hr2' := hr2.out
  rw [restB_restB] at hr2'
  have HR2 := Lib.hid hr2'
  have e1 : IntKind.i64.wrap ((S.size : Int) - (a : Int)) = (S.size : Int) - (a : Int) := IntWalk.i64_in _ (by omega)
  have e2 : IntKind.u64.wrap ((S.size : Int) - (a : Int)) = (S.size : Int) - (a : Int) := by rw [IntKind.wrap_u64]; omega
  have e3 : decide ((S.size : Int) - (a : Int) < (v : Int)) = false := by simp; omega
  have e4 : IntKind.i64.wrap (v : Int) = (v : Int) := IntWalk.i64_in _ (by omega)
  have e5 : IntKind.i64.wrap ((a : Int) + (v : Int)) = (a : Int) + (v : Int) := IntWalk.i64_in _ (by omega)
  have e6 : ((a : Int) + (v : Int)).toNat = a + v := by omega
  have e7 : (a : Int) ≤ (a : Int) + (v : Int) := by omega
  have e8 : (a : Int) + (v : Int) ≤ (S.size : Int) := by omega
  have e9 : (0 : Int) ≤ (a : Int) + (v : Int) := by omega
  have e10 : a + v ≤ S.size := by omega
  clear hr hv hS2 hS3 ht hr2 hr2'
  go_quiet (fail)
  go_wp2_with fail
  go_quiet (fail)
  go_wp2
  go_ret
  exact ⟨rfl, ⟨a + v, false, (hR0.drawn _).moved v, rfl, e10, fun _ => HR2.out.symm, fun e => (by cases e)⟩, (hB.drawn _).setCell _ _⟩

theorem rtext_is (d : Nat) (S r r' : ByteArray) (br br' : Bool) (v : ByteArray) (w : World) (hs : S.size ≤ 100000) (H : Hid (textQ r br = (v, r', br'))) (h : RS w d S r br) :
    Calls Tryd.prog 60 #[.pointer (some ⟨d, 0, none⟩)] w (RDone d (.string v) S r' br' w) := by
  have H := H.out
  unfold textQ at H
  cases br with
  | true =>
    rw [if_pos rfl] at H
    simp at H
    obtain ⟨rfl, rfl, rfl⟩ := H
    have hr : r = ⟨#[]⟩ := by
      obtain ⟨a, bad, _, _, _, _, hn⟩ := h; exact hn rfl
    subst hr
    exact rtext_bad d S ⟨#[]⟩ ⟨#[]⟩ true 0 w hs (Lib.hid (by unfold numQ; rw [if_pos rfl])) h
  | false =>
    rw [if_neg (by simp)] at H
    cases hf : numF r with
    | none =>
      rw [hf] at H
      simp at H
      obtain ⟨rfl, rfl, rfl⟩ := H
      exact rtext_bad d S r ⟨#[]⟩ false 0 w hs (Lib.hid (by unfold numQ; rw [if_neg (by simp), hf])) h
    | some x =>
      obtain ⟨u, r1⟩ := x
      rw [hf] at H
      simp only at H
      have hb := (numF_bounds hf).1
      have hn : numQ r false = ((u : Int), r1, false) := by unfold numQ; rw [if_neg (by simp), hf]
      by_cases hcnd : u ≤ r1.size
      · rw [if_pos hcnd] at H
        simp at H
        obtain ⟨rfl, rfl, rfl⟩ := H
        exact rtext_yes d S r r1 _ _ false u w hs (Lib.hid hn) hcnd (Lib.hid rfl) (Lib.hid rfl) h
      · rw [if_neg hcnd] at H
        simp at H
        obtain ⟨rfl, rfl, rfl⟩ := H
        exact rtext_no d S r r1 false u w hs hb (Lib.hid hn) hcnd h
/-- What the methods leave is no longer than what was there. -/
theorem smallQ_size {r r' : ByteArray} {br br' : Bool} {m v : Int} (H : smallQ r br m = (v, r', br')) : r'.size ≤ r.size := by
  unfold smallQ at H
  split at H
  · simp at H; obtain ⟨rfl, rfl, rfl⟩ := H; exact Nat.le_refl _
  · split at H
    · simp at H; obtain ⟨rfl, rfl, rfl⟩ := H; exact Nat.zero_le _
    · rename_i u r1 hf
      have := (numF_bounds hf).2
      split at H
      · simp at H; obtain ⟨rfl, rfl, rfl⟩ := H; exact this
      · simp at H; obtain ⟨rfl, rfl, rfl⟩ := H; exact Nat.zero_le _
theorem textQ_size {r r' : ByteArray} {br br' : Bool} {v : ByteArray} (H : textQ r br = (v, r', br')) : r'.size ≤ r.size := by
  unfold textQ at H
  split at H
  · simp at H; obtain ⟨rfl, rfl, rfl⟩ := H; exact Nat.le_refl _
  · split at H
    · simp at H; obtain ⟨rfl, rfl, rfl⟩ := H; exact Nat.zero_le _
    · rename_i u r1 hf
      have := (numF_bounds hf).2
      split at H
      · simp at H; obtain ⟨rfl, rfl, rfl⟩ := H; rw [restB_size]; omega
      · simp at H; obtain ⟨rfl, rfl, rfl⟩ := H; exact Nat.zero_le _
end Go.Proofs.YtkomfenjeoaelaaDoor

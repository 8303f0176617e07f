/- The contract of the program's Points. -/
import Derived.Test.YtjckphmkhikpaaaSamplePBytes
import Derived.Test.YtjckphmkhikpaaaSampleOwn
set_option maxRecDepth 20000
namespace Go.Proofs.Ytjckphmkhikpaaa
open Go.RowKit Go.Proofs.Ytjckphmkhikpaaa.Vi Go.Proofs.Ytjckphmkhikpaaa.Mk

/-- What Points answers. -/
def ptsA (l : List Pt) : ByteArray × Int := if l.all Pt.ok = true then (if 1000 < l.length then (⟨#[]⟩, 11) else (tx (ptsB l), 0)) else (⟨#[]⟩, 1)
theorem ptsA_no {l : List Pt} {k : Nat} (h : k < l.length) (hb : (l[k]).ok = false) : ptsA l = (⟨#[]⟩, 1) := by
  unfold ptsA
  rw [if_neg]
  intro e
  have := List.all_eq_true.1 e _ (List.getElem_mem h)
  rw [hb] at this; cases this
theorem all_ok {l : List Pt} (h : ∀ j (hj : j < l.length), (l[j]).ok = true) : l.all Pt.ok = true := List.all_eq_true.2 fun x hx => by
  obtain ⟨j, hj, rfl⟩ := List.getElem_of_mem hx
  exact h j hj
theorem ptsA_many {l : List Pt} (h : ∀ j (hj : j < l.length), (l[j]).ok = true) (hn : 1000 < l.length) : ptsA l = (⟨#[]⟩, 11) := by
  unfold ptsA; rw [if_pos (all_ok h), if_pos hn]
theorem ptsA_yes {l : List Pt} (h : ∀ j (hj : j < l.length), (l[j]).ok = true) (hn : ¬ 1000 < l.length) : ptsA l = (tx (ptsB l), 0) := by
  unfold ptsA; rw [if_pos (all_ok h), if_neg hn]
theorem bytesP_snoc' (l : List Pt) (k : Nat) (h : k < l.length) : enc l.length ++ bytesP (l.take (k + 1)) = enc l.length ++ bytesP (l.take k) ++ (l[k]).bytes := by
  rw [List.take_succ_eq_append_getElem h, bytesP_snoc, List.append_assoc]
theorem bytesP_take_len (l : List Pt) (k : Nat) (h : ∀ p ∈ l, p.ok = true ∧ p.vfit) (hk : k ≤ 1000) : (bytesP (l.take k)).length ≤ 110000 := by
  have := bytesP_len (l.take k) fun p hp => h p (List.mem_of_mem_take hp)
  rw [List.length_take] at this; omega
/-- Points' answer. -/
def PointsDone (l : List Pt) (w : World) (e : Ending) (w' : World) : Prop := e = .returned (.tuple #[.string (ptsA l).1, .int .i64 (ptsA l).2]) ∧ Below w.heap.size w w'

set_option maxHeartbeats 8000000 in
theorem points_is (a0 : Option Addr) (cap0 : Nat) (l : List Pt) (w : World) (hS : Pts w w.heap.size a0 l) (hl : l.length ≤ 100000) (hf : ∀ p ∈ l, p.s.size ≤ 1000000 ∧ p.vfit) : Calls Try.prog 27 #[.slice a0 l.length cap0] w (PointsDone l w) := by
  have HS := Lib.hid hS
  have HF := Lib.hid hf
  clear hS hf
  unfold PointsDone
  go_enter Try.func27, Try.ntmps27
  go_wp2
  go_loopw [12] (fun i wr => ∃ (k : Nat), k ≤ l.length ∧ i = .int .i64 (k : Int) ∧ Below w.heap.size w wr ∧ Hid (∀ j (hj : j < l.length), j < k → (l[j]).ok = true)) (fun i _ => l.length - (intOf i).toNat)
  case atStart => exact ⟨0, by omega, rfl, Below.refl _ _, Lib.hid fun j _ hj => absurd hj (Nat.not_lt_zero _)⟩
  case round =>
    obtain ⟨k, hk, rfl, hB, hall⟩ := hrel
    by_cases hlt : k < l.length
    · have hlti : (k : Int) < (l.length : Int) := by omega
      rcases HS.out.at_ with rfl | ⟨b, off, rfl, hbw, hc⟩
      · simp at hlt
      · have hA := (hc k hlt).below hB hbw
        have hf := HF.out _ (List.getElem_mem hlt)
        have HNO := Lib.hid (fun (h : (l[k]).ok = false) => ptsA_no hlt h)
        have HGO := Lib.hid (fun (h : (l[k]).ok = true) => show ∀ j (hj : j < l.length), j < k + 1 → (l[j]).ok = true from fun j hj hjk => by
          by_cases e : j = k
          · subst e; exact h
          · exact hall.out j hj (by omega))
        obtain ⟨p, hp⟩ : ∃ p, l[k] = p := ⟨_, rfl⟩
        rw [hp] at hA hf HNO HGO
        obtain ⟨c0, c1, c2, c3, c4, c5⟩ := hA
        have kc := fun w => checkp_is p w (by omega)
        unfold Pt.err at kc
        unfold ptV at kc
        have HBH := Lib.hid hB
        clear hc hp hall hB hf
        cases hok : p.ok with
        | true =>
          have HH := Lib.hid (HGO.out hok)
          rw [hok] at kc
          clear HGO HNO hok
          go_wp2_with (go_at_call 33; (with_reducible refine (kc _).mono ?_); rintro e w1 ⟨rfl, hb1⟩)
          go_roundw
          case rel => exact ⟨k + 1, by omega, by go_num, HBH.out.trans ((((Below.refl wr.heap.size wr).alloc (Nat.le_refl _) _).trans (hb1.mono (by simp))).mono HBH.out.size), HH⟩
          case measure => simp [intOf]; omega
        | false =>
          have HH := Lib.hid (HNO.out hok)
          rw [hok] at kc
          clear HGO HNO hok
          go_wp2_with (go_at_call 33; (with_reducible refine (kc _).mono ?_); rintro e w1 ⟨rfl, hb1⟩)
          go_ret2
          exact ⟨by rw [HH.out]; rfl, HBH.out.trans ((((Below.refl wr.heap.size wr).alloc (Nat.le_refl _) _).trans (hb1.mono (by simp))).mono HBH.out.size)⟩
    · have hlti : ¬ (k : Int) < (l.length : Int) := by omega
      have hall2 : ∀ j (hj : j < l.length), (l[j]).ok = true := fun j hj => hall.out j hj (by omega)
      have HBH := Lib.hid hB
      clear hB hall
      by_cases hn : 1000 < l.length
      · have hni : (1000 : Int) < (l.length : Int) := by omega
        have HH := Lib.hid (ptsA_many hall2 hn)
        clear hall2
        go_wp2
        go_ret2
        exact ⟨by rw [HH.out]; rfl, HBH.out⟩
      · have hni : ¬ (1000 : Int) < (l.length : Int) := by omega
        have HH := Lib.hid (ptsA_yes hall2 hn)
        have HOK := Lib.hid (fun p (hp : p ∈ l) => (⟨by obtain ⟨j, hj, rfl⟩ := List.getElem_of_mem hp; exact hall2 j hj, (HF.out p hp).2⟩ : p.ok = true ∧ p.vfit))
        clear hall2
        obtain ⟨w3, hw3⟩ : ∃ x, x = wr := ⟨_, rfl⟩
        subst hw3
        have hu : IntKind.u64.wrap (l.length : Int) = (l.length : Int) := by rw [IntKind.wrap_u64]; omega
        obtain ⟨h0, hh0⟩ : ∃ s, tx (enc l.length) = s := ⟨_, rfl⟩
        have kp := fun w => put_is l.length h0 w (by omega) (Lib.hid hh0)
        have hz0 : h0.size ≤ 10 := by rw [← hh0, tx_size]; exact enc_len10 _ (by omega)
        have HH0 := Lib.hid (show h0.data.toList = enc l.length by rw [← hh0, tx_list6])
        clear hh0
        have htx := fun w hB => ownB_of_text w3.heap.size h0 w hB (by omega)
        go_wp2_with (first
          | (go_at_call 35; (with_reducible refine (kp _).mono ?_); rintro e w4 ⟨rfl, hb4⟩; obtain ⟨v5, w5, hcv, hO5, hb5⟩ := htx w4 hb4.size))
        have HB5 := Lib.hid (hb4.trans (hb5.mono hb4.size))
        have HO5 := Lib.hid (show OwnB w5 w3.heap.size v5 (enc l.length ++ bytesP (l.take 0)) by rw [← HH0.out]; simpa [bytesP] using hO5)
        clear hb4 hb5 hO5 hcv
        go_loopw [7, 32] (fun v i wr => ∃ (k : Nat), k ≤ l.length ∧ i = .int .i64 (k : Int) ∧ OwnB wr w3.heap.size v (enc l.length ++ bytesP (l.take k)) ∧ Below w3.heap.size w3 wr) (fun _ i _ => l.length - (intOf i).toNat)
        case atStart => exact ⟨0, by omega, rfl, HO5.out, HB5.out⟩
        case round =>
          obtain ⟨k, hk, rfl, hO, hB⟩ := hrel
          clear HO5 HB5
          by_cases hkl : k < l.length
          · have hlti : (k : Int) < (l.length : Int) := by omega
            rcases HS.out.at_ with hl0 | ⟨b, off, rfl, hbw, hc⟩
            · rw [hl0] at hkl; simp at hkl
            · have hA := ((hc k hkl).below HBH.out hbw).below hB (Nat.lt_of_lt_of_le hbw HBH.out.size)
              have hf := HOK.out _ (List.getElem_mem hkl)
              have hlen := bytesP_take_len l k HOK.out (by omega)
              have hsn := bytesP_snoc' l k hkl
              obtain ⟨p, hp⟩ : ∃ p, l[k] = p := ⟨_, rfl⟩
              rw [hp] at hA hf hsn
              obtain ⟨c0, c1, c2, c3, c4, c5⟩ := hA
              obtain ⟨S, hS⟩ : ∃ S, tx p.bytes = S := ⟨_, rfl⟩
              have ks := fun w => putp_is p S w hf.1 hf.2 (Lib.hid hS)
              have hsz : S.size ≤ 110 := by rw [← hS, tx_size]; exact pt_bytes_len hf.1 hf.2
              have HSL := Lib.hid (show S.data.toList = p.bytes by rw [← hS, tx_list6])
              have hxl : (enc l.length ++ bytesP (l.take k)).length ≤ 120000 := by
                have := enc_len10 l.length (by omega)
                rw [List.length_append]; omega
              obtain ⟨xs, hxs⟩ : ∃ xs, enc l.length ++ bytesP (l.take k) = xs := ⟨_, rfl⟩
              rw [hxs] at hO hsn hxl
              have HSN := Lib.hid hsn
              have HBB := Lib.hid hB
              have HO := Lib.hid hO
              unfold ptV at ks
              clear hc hp hf hlen hsn hS hxs hB hO
              go_wp2_with (first
                | (go_at_call 38; (with_reducible refine (ks _).mono ?_); rintro e w6 ⟨rfl, hb6⟩; have hb7 := ((Below.refl wr.heap.size wr).alloc (Nat.le_refl _) (.cells #[.string p.s, .int .i64 p.t, .int .i64 p.v, .int .i64 p.st.c, .int .i64 p.st.s, .int .i64 p.st.q] 34)).trans (hb6.mono (by simp)); have HO6 := Lib.hid (HO.out.under hb7 (Nat.le_refl _)); have HB6 := Lib.hid (HBB.out.trans (hb7.mono HBB.out.size)); clear hb6 hb7)
                | (at_builtin; refine wpList_ownB rfl _ _ rfl w3.heap.size _ xs rfl HO6.out S rfl HB6.out.size (by omega) ?_))
              intro v7 w7 hO7 hb7
              have HO7 := Lib.hid (show OwnB w7 w3.heap.size v7 (enc l.length ++ bytesP (l.take (k + 1))) by rw [HSN.out, ← HSL.out]; exact hO7)
              have HB7 := Lib.hid (HB6.out.trans hb7)
              clear hO7 hb7
              go_wp2
              go_roundw
              case rel => exact ⟨k + 1, by omega, by go_num, HO7.out, HB7.out⟩
              case measure => simp [intOf]; omega
          · have hlti : ¬ (k : Int) < (l.length : Int) := by omega
            have hkl : l.take k = l := List.take_of_length_le (by omega)
            rw [hkl] at hO
            have hcv := hO.whole
            obtain ⟨xs, hxs⟩ : ∃ xs, enc l.length ++ bytesP l = xs := ⟨_, rfl⟩
            have HXS := Lib.hid hxs
            rw [hxs] at hO hcv
            clear hxs
            obtain ⟨a5, c5, rfl⟩ := hO.slice
            have HBB := Lib.hid hB
            have HX := Lib.hid (show (ptsA l).1 = tx xs by rw [HH.out, ← HXS.out]; rfl)
            clear hO hB hkl
            go_wp2
            go_ret2
            exact ⟨by rw [HX.out, HH.out]; rfl, HBH.out.trans (HBB.out.mono HBH.out.size)⟩
end Go.Proofs.Ytjckphmkhikpaaa

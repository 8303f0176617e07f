/- Contracts of package frame's All and Put. -/
import Derived.Test.YteijmjbiaffcmaaGreatDoorFrameFirst
namespace Go.Proofs.YteijmjbiaffcmaaGreatDoor
open Go.RowKit Go.Proofs.YteijmjbiaffcmaaGreatDoor.Vi Go.Proofs.YteijmjbiaffcmaaGreatDoor.Crc Go.Proofs.YteijmjbiaffcmaaGreatDoor.Fr

/-- The bodies as lists of bytes. -/
def byL (l : List ByteArray) : List (List UInt8) := l.map fun s => s.data.toList
theorem byL_length (l : List ByteArray) : (byL l).length = l.length := by unfold byL; simp
theorem byL_snoc (l : List ByteArray) (k : Nat) (h : k < l.length) : byL (l.take (k + 1)) = byL (l.take k) ++ [l[k].data.toList] := by
  unfold byL; rw [List.take_succ_eq_append_getElem h, List.map_append]; rfl
theorem size_list (s : ByteArray) : s.data.toList.length = s.size := by simp
theorem frs_one_len (s : ByteArray) (h : s.size ≤ 70000) : (fr s.data.toList).length ≤ 70007 := by
  rw [fr_len, size_list]
  have := enc_len 2 s.size (by have : (128 : Nat) ^ (2 + 1) = 2097152 := by decide
                               omega)
  omega
theorem frs_take_len (l : List ByteArray) (k : Nat) (hk : k ≤ l.length) (h : ∀ s ∈ l, s.size ≤ 70000) : (frs (byL (l.take k))).length ≤ 70007 * k := by
  induction k with
  | zero => simp [byL, frs]
  | succ k ih =>
    rw [byL_snoc l k (by omega), frs_app, List.length_append]
    have h1 := ih (by omega)
    have h2 := frs_one_len l[k] (h _ (List.getElem_mem _))
    have : frs [l[k].data.toList] = fr l[k].data.toList := by simp [frs]
    rw [this]; omega
theorem ownB_of_row {w : World} {B : Nat} {v : Value} {xs : List UInt8} (h : Row w B v xs) : OwnB w B v xs := by
  have h0 := h
  rcases h.2 with ⟨hv, h1⟩ | ⟨g, cap, cur, hv, hg, hh, hn, hm, hs, ht⟩
  · exact Or.inl ⟨hv, List.eq_nil_of_length_eq_zero h1⟩
  · subst hv
    have e1 := World.ownsRow.cellAt (show w.ownsRow B 5 1 _ xs.length (xs.map bcellv) from h0)
    refine Or.inr ⟨g, 0, cap, rfl, hg, (Array.getElem?_eq_some_iff.1 hh).1, hn, hm, fun j hj => ?_, fun j hj => ?_⟩
    · rw [Nat.zero_add, cell_of_row w g j cur 5 (0, 0) hh]
      refine ⟨by simp; omega, ?_⟩
      unfold World.frozen?
      simp only [hh]
      simp
    · rw [Nat.zero_add, e1 j (by omega)]; simp [hj]
theorem sealedB_tx (s : ByteArray) : sealedB s = tx (sealed s.data.toList) := rfl

set_option maxHeartbeats 2000000 in
/-- No body is too long. -/
theorem all_yes (v : Value) (l : List ByteArray) (t : ByteArray) (w : World) (hl : l.length ≤ 41) (hs : ∀ s ∈ l, s.size ≤ 70000) (hv : Ss w v l) (ht : Tab w) (H : Hid (tx (frs (byL l)) = t)) :
    Calls Tryz.prog 59 #[v] w fun e w' => e = .returned (.tuple #[.string t, .int .i64 0]) ∧ Below w.heap.size w w' := by
  obtain ⟨a, cap, rfl⟩ := hv.slice
  have HV := Lib.hid hv
  have HS := Lib.hid hs
  have HT := Lib.hid ht
  clear hs hv ht
  go_enter Tryz.func59, Tryz.ntmps59
  go_wp2
  go_loopw [4, 9] (fun o i wr => ∃ k : Nat, k ≤ l.length ∧ i = .int .i64 (k : Int) ∧ OwnB wr w.heap.size o (frs (byL (l.take k))) ∧ Below w.heap.size w wr) (fun _ i _ => l.length - (intOf i).toNat)
  case atStart => exact ⟨0, by omega, rfl, OwnB.nil _ _, Below.refl _ _⟩
  case round =>
    obtain ⟨k, hk, rfl, hR, hbel⟩ := hrel
    have hRl := frs_take_len l k hk HS.out
    by_cases hlt : k < l.length
    · have hlt2 : (k : Int) < (l.length : Int) := by omega
      obtain ⟨b, off, rfl, -, hc⟩ := HV.out.below hbel |>.cell (by omega)
      have hck := hc k hlt
      have hx7 := HS.out _ (List.getElem_mem hlt)
      obtain ⟨x, hx⟩ : ∃ x, l[k] = x := ⟨_, rfl⟩
      rw [hx] at hck hx7
      have hx7i : ¬ (70000 : Int) < (x.size : Int) := by omega
      have HF : Hid (frs (byL (l.take (k + 1))) = frs (byL (l.take k)) ++ enc x.size ++ sealed x.data.toList) := by
        show _ = _
        rw [byL_snoc l k hlt, frs_app, hx]
        have : frs [x.data.toList] = fr x.data.toList := by simp [frs]
        rw [this, List.append_assoc]
        unfold fr
        rw [size_list]
      have hput := fun w => put_is x.size _ w (by omega) (Lib.hid (rfl : tx (enc x.size) = tx (enc x.size)))
      have hse := fun w ht => sealed_is x _ w (Lib.hid (sealedB_tx x)) (by omega) ht
      have he10 := enc_len10 x.size (by omega)
      have hT1 := HT.out.below hbel HT.out.room
      obtain ⟨Y, hY⟩ : ∃ Y, frs (byL (l.take k)) = Y := ⟨_, rfl⟩
      rw [hY] at hR HF hRl
      obtain ⟨p, hp⟩ : ∃ p, tx (enc x.size) = p := ⟨_, rfl⟩
      have hps : p.size ≤ 10 := by rw [← hp, tx_size]; exact he10
      have HP : Hid (p.data.toList = enc x.size) := by show _ = _; rw [← hp, tx_data]
      rw [hp] at hput
      obtain ⟨q, hq⟩ : ∃ q, tx (sealed x.data.toList) = q := ⟨_, rfl⟩
      have hqs : q.size ≤ 70004 := by rw [← hq, tx_size, sealed_length, size_list]; omega
      have HQ : Hid (q.data.toList = sealed x.data.toList) := by show _ = _; rw [← hq, tx_data]
      rw [hq] at hse
      have HB := Lib.hid hbel
      clear hc hx hbel hY hp hq he10
      have hBr : w.heap.size ≤ wr.heap.size := HB.out.size
      go_wp2_with (first
        | (go_at_call 45; (with_reducible refine (hput _).mono ?_); rintro e w1 ⟨rfl, hb1⟩; have hR1 := Lib.hid (hR.under hb1 (Nat.le_refl _)); have HB1 := Lib.hid (HB.out.trans (hb1.mono hBr)); clear hR hb1)
        | (at_builtin; refine wpList_ownB rfl _ _ rfl w.heap.size _ Y rfl hR1.out p rfl HB1.out.size (by omega) ?_))
      intro v2 w2 hR2 hb2
      have HR2 := Lib.hid hR2
      have HB2 := Lib.hid (HB1.out.trans hb2)
      have hT2 := HT.out.below HB2.out HT.out.room
      clear hR2 hb2 hR1 hT1
      go_wp2_with (first
        | (go_at_call 92; (with_reducible refine (hse _ hT2).mono ?_); rintro e w3 ⟨rfl, hb3⟩; have hR3 := Lib.hid (HR2.out.under hb3 (Nat.le_refl _)); have HB3 := Lib.hid (HB2.out.trans (hb3.mono HB2.out.size)); clear HR2 hb3)
        | (at_builtin; refine wpList_ownB rfl _ _ rfl w.heap.size _ _ rfl hR3.out q rfl HB3.out.size (by rw [List.length_append, size_list]; omega) ?_))
      intro v4 w4 hR4 hb4
      have HR4 := Lib.hid hR4
      have HB4 := Lib.hid (HB3.out.trans hb4)
      clear hR4 hb4 hR3 HB1 HB2 HB3
      go_wp2
      go_roundw
      case rel => exact ⟨k + 1, by omega, by go_num, by rw [HF.out, ← HP.out, ← HQ.out]; simpa using HR4.out, HB4.out⟩
      case measure => simp [intOf]; omega
    · have hlt2 : ¬ (k : Int) < (l.length : Int) := by omega
      have hk2 : l.take k = l := List.take_of_length_le (by omega)
      rw [hk2] at hR
      obtain ⟨a2, c2, rfl⟩ := hR.slice
      have hback := hR.text (Below.refl _ _) 0 (frs (byL l)).length c2 (by omega) (Nat.le_refl _)
      have hcc : (frs (byL l)).length ≤ c2 := by
        rcases hR with ⟨h, h'⟩ | ⟨g, off, cap, h1, h2, h3, h4, -⟩
        · rw [h']; simp
        · injection h1 with e1 e2 e3
          subst e3; exact h4
      have hback := hback hcc
      rw [List.drop_zero, Nat.sub_zero, List.take_length, H.out] at hback
      have hsl : sliced a2 0 (frs (byL l)).length c2 1 = .slice a2 (frs (byL l)).length c2 := by
        unfold sliced
        rw [Nat.sub_zero, Nat.sub_zero]
        split
        · rfl
        · cases a2 with
          | none => rfl
          | some y => simp [Addr.add]
      rw [hsl] at hback
      generalize (frs (byL l)).length = n at *
      clear hR hsl hcc hRl hk2 hlt
      go_wp2
      go_ret2
      exact ⟨rfl, hbel⟩

set_option maxHeartbeats 1000000 in
/-- One of them is: the one at j, and none ahead of it. -/
theorem all_no (v : Value) (l : List ByteArray) (w : World) (hl : l.length ≤ 41) (j : Nat) (hj : j < l.length) (hs : ∀ i (h : i < l.length), i < j → l[i].size ≤ 70000) (hjs : 70000 < l[j].size) (hjm : l[j].size ≤ 1000000) (hv : Ss w v l) (ht : Tab w) :
    Calls Tryz.prog 59 #[v] w fun e w' => e = .returned (.tuple #[.string ⟨#[]⟩, .int .i64 11]) ∧ Below w.heap.size w w' := by
  obtain ⟨a, cap, rfl⟩ := hv.slice
  have HV := Lib.hid hv
  have HS := Lib.hid hs
  have HT := Lib.hid ht
  clear hs hv ht
  go_enter Tryz.func59, Tryz.ntmps59
  go_wp2
  go_loopw [4, 9] (fun o i wr => ∃ (k : Nat) (Y : List UInt8), k ≤ j ∧ i = .int .i64 (k : Int) ∧ OwnB wr w.heap.size o Y ∧ Y.length ≤ 70014 * k ∧ Below w.heap.size w wr) (fun _ i _ => l.length - (intOf i).toNat)
  case atStart => exact ⟨0, [], by omega, rfl, OwnB.nil _ _, by simp, Below.refl _ _⟩
  case round =>
    obtain ⟨k, Y, hk, rfl, hR, hRl, hbel⟩ := hrel
    have hlt : k < l.length := by omega
    have hlt2 : (k : Int) < (l.length : Int) := by omega
    obtain ⟨b, off, rfl, -, hc⟩ := HV.out.below hbel |>.cell (by omega)
    have hck := hc k hlt
    have hx7 := HS.out k hlt
    by_cases hkj : k < j
    · have hx7 := hx7 hkj
      obtain ⟨x, hx⟩ : ∃ x, l[k] = x := ⟨_, rfl⟩
      rw [hx] at hck hx7
      have hx7i : ¬ (70000 : Int) < (x.size : Int) := by omega
      have hput := fun w => put_is x.size _ w (by omega) (Lib.hid (rfl : tx (enc x.size) = tx (enc x.size)))
      have hse := fun w ht => sealed_is x _ w (Lib.hid (sealedB_tx x)) (by omega) ht
      have he10 := enc_len10 x.size (by omega)
      have hT1 := HT.out.below hbel HT.out.room
      obtain ⟨p, hp⟩ : ∃ p, tx (enc x.size) = p := ⟨_, rfl⟩
      have hps : p.size ≤ 10 := by rw [← hp, tx_size]; exact he10
      rw [hp] at hput
      obtain ⟨q, hq⟩ : ∃ q, tx (sealed x.data.toList) = q := ⟨_, rfl⟩
      have hqs : q.size ≤ 70004 := by rw [← hq, tx_size, sealed_length, size_list]; omega
      rw [hq] at hse
      have HB := Lib.hid hbel
      clear hc hx hbel hp hq he10
      have hBr : w.heap.size ≤ wr.heap.size := HB.out.size
      go_wp2_with (first
        | (go_at_call 45; (with_reducible refine (hput _).mono ?_); rintro e w1 ⟨rfl, hb1⟩; have hR1 := Lib.hid (hR.under hb1 (Nat.le_refl _)); have HB1 := Lib.hid (HB.out.trans (hb1.mono hBr)); clear hR hb1)
        | (at_builtin; refine wpList_ownB rfl _ _ rfl w.heap.size _ Y rfl hR1.out p rfl HB1.out.size (by omega) ?_))
      intro v2 w2 hR2 hb2
      have HR2 := Lib.hid hR2
      have HB2 := Lib.hid (HB1.out.trans hb2)
      have hT2 := HT.out.below HB2.out HT.out.room
      clear hR2 hb2 hR1 hT1
      go_wp2_with (first
        | (go_at_call 92; (with_reducible refine (hse _ hT2).mono ?_); rintro e w3 ⟨rfl, hb3⟩; have hR3 := Lib.hid (HR2.out.under hb3 (Nat.le_refl _)); have HB3 := Lib.hid (HB2.out.trans (hb3.mono HB2.out.size)); clear HR2 hb3)
        | (at_builtin; refine wpList_ownB rfl _ _ rfl w.heap.size _ _ rfl hR3.out q rfl HB3.out.size (by rw [List.length_append, size_list]; omega) ?_))
      intro v4 w4 hR4 hb4
      have HR4 := Lib.hid hR4
      have HB4 := Lib.hid (HB3.out.trans hb4)
      clear hR4 hb4 hR3 HB1 HB2 HB3
      go_wp2
      go_roundw
      case rel => exact ⟨k + 1, _, by omega, by go_num, HR4.out, by rw [List.length_append, List.length_append, size_list, size_list]; omega, HB4.out⟩
      case measure => simp [intOf]; omega
    · obtain rfl : k = j := by omega
      obtain ⟨x, hx⟩ : ∃ x, l[k] = x := ⟨_, rfl⟩
      rw [hx] at hck hjs hjm
      have hx7i : (70000 : Int) < (x.size : Int) := by omega
      clear hc hx hx7
      go_wp2
      go_ret2
      exact ⟨rfl, hbel⟩

/-- The frame of a body that is not too long. -/
theorem put_yes (s t : ByteArray) (w : World) (hs : s.size ≤ 70000) (ht : Tab w) (H : Hid (tx (fr s.data.toList) = t)) :
    Calls Tryz.prog 44 #[.string s] w fun e w' => e = .returned (.tuple #[.string t, .int .i64 0]) ∧ Below w.heap.size w w' := by
  obtain ⟨W, hW⟩ : ∃ W, w.alloc (.cells #[.string s] 9) = W := ⟨_, rfl⟩
  have hBW : Below w.heap.size w W := by rw [← hW]; exact (Below.refl _ _).alloc (Nat.le_refl _) _
  have hc : W.cell? ⟨w.heap.size, 0, none⟩ = some (.string s) := by rw [← hW]; simp [go_sem]
  have hS : Ss W (.slice (some ⟨w.heap.size, 0, none⟩) 1 1) [s] := ⟨_, _, rfl, by simp, by unfold maxLen; omega, Or.inr ⟨_, 0, rfl, by rw [← hW]; simp, fun j hj => by
    obtain rfl : j = 0 := by simpa using hj
    exact hc⟩⟩
  have hA := all_yes _ [s] t W (by simp) (fun x hx => by obtain rfl := List.mem_singleton.1 hx; exact hs) hS (ht.below hBW ht.room) (by
    show tx (frs (byL [s])) = t
    rw [show frs (byL [s]) = fr s.data.toList by simp [frs, byL]]; exact H.out)
  subst hW
  have HBW := Lib.hid hBW
  clear hs ht H hS hc hBW
  go_enter Tryz.func44, Tryz.ntmps44
  go_wp2_with (go_at_call 59; (with_reducible refine hA.mono ?_); rintro e w1 ⟨rfl, hb1⟩)
  go_ret2
  exact ⟨rfl, HBW.out.trans (hb1.mono HBW.out.size)⟩
theorem put_no (s : ByteArray) (w : World) (hs : 70000 < s.size) (hm : s.size ≤ 1000000) (ht : Tab w) :
    Calls Tryz.prog 44 #[.string s] w fun e w' => e = .returned (.tuple #[.string ⟨#[]⟩, .int .i64 11]) ∧ Below w.heap.size w w' := by
  obtain ⟨W, hW⟩ : ∃ W, w.alloc (.cells #[.string s] 9) = W := ⟨_, rfl⟩
  have hBW : Below w.heap.size w W := by rw [← hW]; exact (Below.refl _ _).alloc (Nat.le_refl _) _
  have hc : W.cell? ⟨w.heap.size, 0, none⟩ = some (.string s) := by rw [← hW]; simp [go_sem]
  have hS : Ss W (.slice (some ⟨w.heap.size, 0, none⟩) 1 1) [s] := ⟨_, _, rfl, by simp, by unfold maxLen; omega, Or.inr ⟨_, 0, rfl, by rw [← hW]; simp, fun j hj => by
    obtain rfl : j = 0 := by simpa using hj
    exact hc⟩⟩
  have hA := all_no _ [s] W (by simp) 0 (by simp) (fun i _ h => absurd h (Nat.not_lt_zero _)) hs hm hS (ht.below hBW ht.room)
  subst hW
  have HBW := Lib.hid hBW
  clear hs hm ht hS hc hBW
  go_enter Tryz.func44, Tryz.ntmps44
  go_wp2_with (go_at_call 59; (with_reducible refine hA.mono ?_); rintro e w1 ⟨rfl, hb1⟩)
  go_ret2
  exact ⟨rfl, HBW.out.trans (hb1.mono HBW.out.size)⟩
end Go.Proofs.YteijmjbiaffcmaaGreatDoor

/- The set's Has. -/
import Derived.Test.YtdkenokjdiamhaaDoorWindowPut
import Derived.Test.YtdkenokjdiamhaaDoorWindowSetMath
import Derived.Test.YtdkenokjdiamhaaDoorWindowFns2
import Derived.Laws.EntriesVeiled
set_option maxRecDepth 20000
namespace Go.Proofs.YtdkenokjdiamhaaDoor
open Go.RowKit

abbrev HCL (A : Nat) : Value := .func (.func 55) #[] #[.pointer (some ⟨A, 0, none⟩)]
theorem has1_is (p s : Sp) (A : Nat) (w : World) (hs : SpAt w A s) : Calls Tryd.prog 55 #[p.v, .pointer (some ⟨A, 0, none⟩)] w fun e w' => e = .returned (.bool (meetsB p s)) ∧ Below w.heap.size w w' := by
  have km := fun w => meets_is p s _ w (Lib.hid rfl)
  have hB := (Below.refl w.heap.size w).alloc (Nat.le_refl _) (.cells #[.int .i64 p.f, .int .i64 p.t] 26)
  have hs1 := hs.below hB
  obtain ⟨x0, x1⟩ := hs1
  have hr := hs.room
  unfold Sp.v at km ⊢
  generalize meetsB p s = z at *
  clear hs
  go_enter Tryd.func55, Tryd.ntmps55
  go_wp2_with (go_at_call 32; (with_reducible refine (km _).mono ?_); rintro e w1 ⟨rfl, hb1⟩)
  go_ret
  exact ⟨rfl, bel_next hB hb1⟩
def anyM (M : List Sp) (s : Sp) : Bool := M.any fun p => meetsB p s
set_option maxHeartbeats 4000000 in
theorem index_is (a : Option Addr) (m c A : Nat) (M : List Sp) (s : Sp) (w : World) (hm : Hid (M.length = m)) (hM : Sps w w.heap.size a M) (hs : SpAt w A s) (hlen : m ≤ 1000000) :
    Calls Tryd.prog 62 #[.slice a m c, HCL A] w fun e w' => (∃ k : Int, e = .returned (.int .i64 k) ∧ decide (0 ≤ k) = anyM M s) ∧ Below w.heap.size w w' := by
  have HM := Lib.hid hM
  have HS := Lib.hid hs
  have kh := fun p w h => has1_is p s A w h
  clear hM hs
  go_enter Tryd.func62, Tryd.ntmps62
  go_wp2
  go_loopw [8] (fun x wr => ∃ k : Nat, x = .int .i64 (k : Int) ∧ k ≤ m ∧ Below w.heap.size w wr ∧ Hid (∀ j (h : j < M.length), j < k → meetsB M[j] s = false)) (fun x _ => m - (intOf x).toNat)
  case atStart => exact ⟨0, rfl, Nat.zero_le _, Below.refl _ _, Lib.hid fun j _ h => absurd h (Nat.not_lt_zero _)⟩
  case round =>
    obtain ⟨k, rfl, hk, hB, hno⟩ := hrel
    obtain ⟨w3, hw3⟩ : ∃ x, x = wr := ⟨_, rfl⟩
    subst hw3
    by_cases hkm : k < m
    · have hkmi : (k : Int) < (m : Int) := by omega
      have hkL : k < M.length := by rw [hm.out]; exact hkm
      rcases HM.out.at_ with h0 | ⟨g, off, rfl, hgw, hc⟩
      · rw [h0] at hkL; simp at hkL
      · obtain ⟨q, hq⟩ : ∃ q, M[k] = q := ⟨_, rfl⟩
        have cq := (hc k hkL).below hB hgw
        rw [hq] at cq
        obtain ⟨q0, q1⟩ := cq
        have kh1 := kh q w3 (HS.out.below hB)
        have hwk : IntKind.i64.wrap ((k : Int) + 1) = (k : Int) + 1 := by rw [IntKind.wrap_i64]; omega
        have hwk0 : IntKind.i64.wrap (k : Int) = (k : Int) := by rw [IntKind.wrap_i64]; omega
        unfold Sp.v at kh1
        have HB := Lib.hid hB
        have HQ := Lib.hid hq
        clear hc hB hq
        cases hz : meetsB q s with
        | true =>
          rw [hz] at kh1
          have HA := Lib.hid (show decide ((0 : Int) ≤ (k : Int)) = anyM M s by
            have : anyM M s = true := List.any_eq_true.2 ⟨q, by rw [← HQ.out]; exact List.getElem_mem hkL, hz⟩
            rw [this]; simp)
          clear hz
          go_wp2_with (go_at_call 55; (with_reducible refine kh1.mono ?_); rintro e w4 ⟨rfl, hb4⟩)
          go_ret
          exact ⟨⟨_, rfl, HA.out⟩, bel_next HB.out hb4⟩
        | false =>
          rw [hz] at kh1
          have HH := Lib.hid (show ∀ j (h : j < M.length), j < k + 1 → meetsB M[j] s = false from fun j h hj => by
            by_cases e : j = k
            · subst e; rw [HQ.out]; exact hz
            · exact hno.out j h (by omega))
          clear hz
          go_wp2_with (go_at_call 55; (with_reducible refine kh1.mono ?_); rintro e w4 ⟨rfl, hb4⟩)
          go_roundw
          case rel => exact ⟨k + 1, by go_num, hkm, bel_next HB.out hb4, HH⟩
          case measure => simp [intOf]; omega
    · have hkmi : ¬ (k : Int) < (m : Int) := by omega
      have HA := Lib.hid (show decide ((0 : Int) ≤ (-1 : Int)) = anyM M s by
        have : anyM M s = false := by
          unfold anyM
          rw [List.any_eq_false]
          intro p hp
          obtain ⟨j, hj, rfl⟩ := List.getElem_of_mem hp
          have := hno.out j hj (by rw [hm.out] at hj; omega)
          simp [this]
        rw [this]; rfl)
      go_wp2
      go_ret
      exact ⟨⟨_, rfl, HA.out⟩, hB⟩
theorem contains_is (a : Option Addr) (m c A : Nat) (M : List Sp) (s : Sp) (w : World) (hm : Hid (M.length = m)) (hM : Sps w w.heap.size a M) (hs : SpAt w A s) (hlen : m ≤ 1000000) :
    Calls Tryd.prog 54 #[.slice a m c, HCL A] w fun e w' => e = .returned (.bool (anyM M s)) ∧ Below w.heap.size w w' := by
  have ki := index_is a m c A M s w hm hM hs hlen
  generalize anyM M s = z at *
  clear hM hs
  go_enter Tryd.func54, Tryd.ntmps54
  go_wp2_with (go_at_call 62; (with_reducible refine ki.mono ?_); rintro e w1 ⟨⟨k, rfl, hk⟩, hb1⟩; have HK := Lib.hid hk; clear hk)
  go_ret
  exact ⟨by rw [← HK.out]; rfl, hb1⟩
def hasD (L : List Sp) (t : Int) : Bool := L.any fun p => decide (p.f ≤ t ∧ t < p.t)
theorem hasD_iff {L : List Sp} {t : Int} : hasD L t = true ↔ inS L t := by
  unfold hasD inS
  rw [List.any_eq_true]
  simp
theorem has_any {L : List Sp} {t : Int} {i j : Nat} (hC : Canon L) (htop : ∀ p ∈ L, p.t ≤ 1099511627777) (h : TouchOk L (ofI t 0) i j) : anyM ((L.drop i).take (j - i)) (ofI t 0) = hasD L t := by
  by_cases ht : 0 ≤ t ∧ t < 1099511627777
  · have e : ofI t 0 = ⟨t, t + 1⟩ := by
      rw [of_of ht (by rw [wid_0]; omega), wid_0]
      unfold cutI
      rw [if_neg (by omega)]
      congr 1 <;> omega
    rw [e] at h ⊢
    obtain ⟨h1, -, h3⟩ := h.parts
    have e3 := three (L := L) h.le
    rw [Bool.eq_iff_iff, hasD_iff]
    conv => rhs; rw [← e3]
    rw [in_append, in_append]
    have n1 : ¬ inS (L.take i) t := by rintro ⟨p, hp, _, h⟩; have := h1 p hp; dsimp only at this; omega
    have n3 : ¬ inS (L.drop j) t := by rintro ⟨p, hp, h, _⟩; have := h3 p hp; dsimp only at this; omega
    have key : anyM ((L.drop i).take (j - i)) ⟨t, t + 1⟩ = true ↔ inS ((L.drop i).take (j - i)) t := by
      unfold anyM inS
      rw [List.any_eq_true]
      constructor
      · rintro ⟨p, hp, h⟩
        refine ⟨p, hp, ?_⟩
        unfold meetsB at h
        simp only [Bool.and_eq_true, decide_eq_true_eq] at h
        omega
      · rintro ⟨p, hp, h⟩
        refine ⟨p, hp, ?_⟩
        have hpL := List.mem_of_mem_drop (List.mem_of_mem_take hp)
        have := hC.pos p hpL
        have := htop p hpL
        unfold meetsB
        simp only [Bool.and_eq_true, decide_eq_true_eq, Sp.is_iff]
        omega
    rw [key]
    constructor
    · intro h; exact Or.inl (Or.inr h)
    · rintro ((h | h) | h)
      · exact absurd h n1
      · exact h
      · exact absurd h n3
  · have e : ofI t 0 = Sp.zero := by
      unfold ofI startI
      rw [if_neg (c := 0 ≤ t ∧ t < 1099511627777 ∧ wid 0 ≠ 0) (by omega), if_pos (by omega)]
    rw [e]
    have h1 : anyM ((L.drop i).take (j - i)) Sp.zero = false := by
      unfold anyM
      rw [List.any_eq_false]
      intro p hp
      have := hC.pos p (List.mem_of_mem_drop (List.mem_of_mem_take hp))
      unfold meetsB Sp.zero
      simp
      omega
    have h2 : hasD L t = false := by
      unfold hasD
      rw [List.any_eq_false]
      intro p hp
      have := hC.pos p hp
      have := htop p hp
      simp
      omega
    rw [h1, h2]
theorem SpRow.upto7 {w : World} {B : Nat} {a : Option Addr} {r c : Nat} {xs : List Sp} (h : SpRow w B (.slice a r c) xs) (hr : xs.length = r) : r ≤ c := by
  rcases h.2 with ⟨e, h0⟩ | ⟨g', cap', cur', e, _, _, hf, _⟩
  · omega
  · injection e with e1 e2 e3; omega
theorem phas_nil (t : Int) (w : World) : Calls Tryd.prog 41 #[.pointer none, .int .i64 t] w fun e w' => e = .returned (.bool false) ∧ Below w.heap.size w w' := by
  go_enter Tryd.func41, Tryd.ntmps41
  go_wp2
  go_ret
  exact ⟨rfl, Below.refl _ _⟩
set_option maxHeartbeats 4000000 in
theorem phas_is (b : Nat) (v : Value) (L : List Sp) (t : Int) (w : World) (hT : Tab w) (ht : -9223372036854775808 ≤ t ∧ t ≤ 9223372036854775807) (hS : SetAt w b v L) (hC : Canon L) (htop : ∀ p ∈ L, p.t ≤ 1099511627777) (hlen : L.length ≤ 100000) :
    Calls Tryd.prog 41 #[.pointer (some ⟨b, 0, none⟩), .int .i64 t] w fun e w' => e = .returned (.bool (hasD L t)) ∧ Below w.heap.size w w' := by
  have hmf : ∀ (fn : Fn) (first cap : Array Value) (w : World), (Instr.makeFunc fn first cap).run Tryd.prog w = .ok (.func fn first cap) w := fun _ _ _ _ => rfl
  obtain ⟨a, c, rfl⟩ := hS.row.slice
  obtain ⟨n, hn⟩ : ∃ n, L.length = n := ⟨_, rfl⟩
  have hb := hS.room
  have hcn : L.length ≤ c := SpRow.upto7 hS.row rfl
  have ko := of_is t 0 _ w hT ht (Lib.hid rfl)
  have hany := fun i j h => has_any (L := L) (t := t) (i := i) (j := j) hC htop h
  obtain ⟨o, ho⟩ : ∃ o, ofI t 0 = o := ⟨_, rfl⟩
  rw [ho] at ko hany
  have kt := fun w' (h : Below w.heap.size w w') => touched_is b _ L o w' (hS.later h) hC (by omega)
  have HN := Lib.hid hn
  have c0 := hS.cell
  have HSP := Lib.hid hS.row.sps
  have HANY := Lib.hid hany
  have HCN := Lib.hid hcn
  rw [hn] at c0
  have hlen : n ≤ 100000 := by omega
  unfold Sp.v at ko kt
  obtain ⟨z, hz⟩ : ∃ z, hasD L t = z := ⟨_, rfl⟩
  rw [hz] at HANY ⊢
  have HHT := Lib.hid hT
  clear hS hC hn hcn ho hany hz htop hT
  go_enter Tryd.func41, Tryd.ntmps41
  go_wp2_with (first
    | (go_at_call 15; (with_reducible refine ko.mono ?_); rintro e w1 ⟨rfl, hb1⟩; (have HB1 := Lib.hid (bel_new hb1 (.cells #[.int .i64 o.f, .int .i64 o.t] 26))); (have HO1 := Lib.hid (SpAt.new w1 o 26)); (have hO := HO1.out); (obtain ⟨x0, x1⟩ := hO))
    | (go_at_call 51; (with_reducible refine (kt _ HB1.out).mono ?_); rintro e w2 ⟨i, j, rfl, hto, hb2⟩; (have HB2 := Lib.hid (bel_next HB1.out hb2)); (have HO2 := Lib.hid (HO1.out.below hb2)); (have cv := (HB2.out.cell (p := ⟨b, 0, none⟩) hb).trans c0); (have hij := hto.le); (have hjL := hto.len); (obtain ⟨d, hd⟩ : ∃ d, j - i = d := ⟨_, rfl⟩); (obtain ⟨p, hpa, hp, hp'⟩ := cut_mid a n c i j (i : Int) (j : Int) rfl rfl hij (by rw [← HN.out] at *; have := HCN.out; omega)); (rw [hd] at hp hp'); (have HMID := Lib.hid (show Sps w2 w2.heap.size p ((L.drop i).take d) from by
        refine (Sps.below (w := w) ?_ HB2.out).mono HB2.out.size
        rw [← hd]
        rcases HSP.out.at_ with h0 | ⟨g, off, e, hgw, hcells⟩
        · refine ⟨Or.inl ?_⟩; rw [h0]; simp
        · subst e; exact Sps.mid hcells hgw i j hij hjL p hpa HCN.out)); (have kk := contains_is p d (c - i) w1.heap.size _ o w2 (Lib.hid (show ((L.drop i).take d).length = d by rw [← hd]; exact mid_len L i j hij hjL)) HMID.out HO2.out (by rw [HN.out] at hjL; omega)); (rw [show anyM ((L.drop i).take d) o = z by rw [← hd]; exact HANY.out i j hto] at kk); (have HSZ := Lib.hid hb2.size); clear hto hpa hij hjL)
    | (go_at_call 54; (with_reducible refine kk.mono ?_); rintro e w3 ⟨rfl, hb3⟩))
  go_ret
  exact ⟨rfl, bel_next HB2.out hb3⟩
end Go.Proofs.YtdkenokjdiamhaaDoor

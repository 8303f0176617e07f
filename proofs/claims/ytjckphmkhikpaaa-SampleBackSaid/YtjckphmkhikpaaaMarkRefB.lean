/- Contracts of the document's Plain, Right, At, With, Join, Meet, Covers, Compare, Text. -/
import Derived.Test.YtjckphmkhikpaaaMarkRefA
import Derived.Test.YtjckphmkhikpaaaMarkLatMath
set_option maxRecDepth 20000
namespace Go.Proofs.Ytjckphmkhikpaaa
open Go.RowKit Go.Proofs.Ytjckphmkhikpaaa.Vi Go.Proofs.Ytjckphmkhikpaaa.Mk

theorem rplain_is (v : Value) (l : List Int) (w : World) (h : Ns w v l) : Calls Try.prog 78 #[v] w (VDone (plainL l) w) := by
  have k1 := rall_is v l w h
  have k2 := fun w => rvector_is (fun i => atL l (i : Int)) w (atL_fit l)
  clear h
  go_enter Try.func78, Try.ntmps78
  go_wp2_with (first
    | (go_at_call 83; (with_reducible refine k1.mono ?_); rintro e w1 ⟨rfl, hb1⟩)
    | (go_at_call 93; (with_reducible refine (k2 _).mono ?_); rintro e w2 ⟨v2, rfl, hN, hb2⟩))
  go_ret
  exact ⟨_, rfl, hN, bel_next hb1 hb2⟩
theorem rright_is (v : Value) (l : List Int) (w : World) (h : Ns w v l) : Calls Try.prog 51 #[v] w fun e w' => e = .returned (.bool (sameL l (plainL l))) ∧ Below w.heap.size w w' := by
  have hn := rplain_is v l w h
  obtain ⟨z, hz⟩ : ∃ z, sameL l (plainL l) = z := ⟨_, rfl⟩
  have hq := fun v' w' (h' : Ns w' v' (plainL l)) (hb : Below w.heap.size w w') => rsameN v v' l (plainL l) w' (h.later hb) h'
  rw [hz] at hq ⊢
  clear h hz
  go_enter Try.func51, Try.ntmps51
  go_wp2_with (first
    | (go_at_call 78; (with_reducible refine hn.mono ?_); rintro e w1 ⟨v1, rfl, hN1, hb1⟩)
    | (go_at_call 71; (with_reducible refine (hq _ _ hN1 hb1).mono ?_); rintro e w2 ⟨rfl, hb2⟩))
  go_ret
  exact ⟨rfl, bel_next hb1 hb2⟩
theorem index_arr (f : Nat → Int) (k : Nat) (hk : k < 8) (w : World) : (Instr.index 90 (.agg (arrOf f)) (.int .i64 (k : Int))).run Try.prog w = .ok (.int .i64 (f k)) w := by
  match k, hk with
  | 0, _ | 1, _ | 2, _ | 3, _ | 4, _ | 5, _ | 6, _ | 7, _ => rfl
theorem rat_is (v : Value) (l : List Int) (s : Int) (w : World) (h : Ns w v l) : Calls Try.prog 53 #[v, .int .i64 s] w fun e w' => e = .returned (.int .i64 (atL l s)) ∧ Below w.heap.size w w' := by
  have k1 := rall_is v l w h
  clear h
  by_cases c1 : s < 0
  · rw [atL_out (Or.inl c1)]
    go_enter Try.func53, Try.ntmps53
    go_wp2
    go_ret
    exact ⟨rfl, Below.refl _ _⟩
  · by_cases c2 : 7 < s
    · rw [atL_out (Or.inr c2)]
      go_enter Try.func53, Try.ntmps53
      go_wp2
      go_ret
      exact ⟨rfl, Below.refl _ _⟩
    · obtain ⟨k, rfl⟩ := Int.eq_ofNat_of_zero_le (show 0 ≤ s by omega)
      have hix := fun w => index_arr (fun i => atL l (i : Int)) k (by omega) w
      clear c1
      go_enter Try.func53, Try.ntmps53
      go_wp2_with (go_at_call 83; (with_reducible refine k1.mono ?_); rintro e w1 ⟨rfl, hb1⟩)
      go_ret
      exact ⟨rfl, hb1⟩

/-- The first k of z, the others of x. -/
def mix (x z : Nat → Int) (k : Nat) : Nat → Int := fun j => if j < k then z j else x j
theorem mix_at (x z : Nat → Int) (k : Nat) : mix x z k k = x k := by unfold mix; rw [if_neg (by omega)]
theorem mix_step {x z : Nat → Int} {k : Nat} (j : Nat) : updI (mix x z k) k (z k) j = mix x z (k + 1) j := by
  unfold updI mix
  by_cases h : j = k
  · subst h; rw [if_pos rfl, if_pos (by omega)]
  · rw [if_neg h]
    by_cases h2 : j < k
    · rw [if_pos h2, if_pos (by omega)]
    · rw [if_neg h2, if_neg (by omega)]
theorem mix_same {x z : Nat → Int} {k : Nat} (hk : x k = z k) (j : Nat) : mix x z k j = mix x z (k + 1) j := by
  unfold mix
  by_cases h : j = k
  · subst h; rw [if_neg (by omega), if_pos (by omega), hk]
  · by_cases h2 : j < k
    · rw [if_pos h2, if_pos (by omega)]
    · rw [if_neg h2, if_neg (by omega)]
/-- What the loop of Join or Meet has done. -/
structure TwoRel (w wr : World) (b d : Nat) (x y z : Nat → Int) (k : Nat) : Prop where
  x : Arr wr b (mix x z k)
  y : Arr wr d y
  bel : Below w.heap.size w wr
theorem TwoRel.next {w wr : World} {b d : Nat} {x y z : Nat → Int} {k : Nat} (R : TwoRel w wr b d x y z k) (hk : k < 8) (hb : w.heap.size ≤ b) (hd : d ≠ b) (v : Int) (hv : z k = v) : TwoRel w (wr.setCell ⟨b, k, none⟩ (.int .i64 v)) b d x y z (k + 1) := by
  subst hv
  exact ⟨(R.x.stored k hk _).congr fun i _ => mix_step i, R.y.other _ _ hd, R.bel.setCell hb _⟩
theorem TwoRel.pass {w wr : World} {b d : Nat} {x y z : Nat → Int} {k : Nat} (R : TwoRel w wr b d x y z k) (hk : x k = z k) : TwoRel w wr b d x y z (k + 1) := ⟨R.x.congr fun i _ => mix_same hk i, R.y, R.bel⟩
theorem TwoRel.drewN {w wr : World} {b d : Nat} {x y z : Nat → Int} {k : Nat} (R : TwoRel w wr b d x y z k) (n : Nat) : TwoRel w (wr.drewN n) b d x y z k := ⟨R.x.below (below_drawn _ _), R.y.below (below_drawn _ _), below_drewN R.bel n⟩

theorem one_ns (w : World) (b : Nat) (x : Int) (hc : w.cell? ⟨b, 0, none⟩ = some (.int .i64 x)) (hx : -9223372036854775808 ≤ x ∧ x ≤ 9223372036854775807) : Ns w (.slice (some ⟨b, 0, none⟩) 1 1) [x] :=
  ⟨⟨_, _, rfl, Or.inr ⟨b, 0, rfl, World.block_lt_of_cell? w _ hc, fun j hj => by
    match j, hj with
    | 0, _ => exact hc⟩⟩, fun n hn => by simp at hn; subst hn; exact hx, by simp, Nat.le_refl _⟩
set_option maxHeartbeats 2000000 in
theorem rvtext_is (v : Value) (l : List Int) (s : ByteArray) (w : World) (h : Ns w v l) (hs : Hid (tx (textL (plainL l)) = s)) : Calls Try.prog 44 #[v] w (TextDone s w) := by
  have hn := rplain_is v l w h
  obtain ⟨p, hp⟩ : ∃ p, plainL l = p := ⟨_, rfl⟩
  have hfit : ∀ n ∈ p, 0 ≤ n ∧ n ≤ 1099511627776 := by rw [← hp]; exact vec_fit (atL_fit l)
  have hp8 : p.length ≤ 8 := by rw [← hp]; exact vec_size _
  have hsz : s.size ≤ 90 := by rw [← hs.out, tx_size, hp]; exact textL_len p hfit hp8
  rw [hp] at hn hs
  have hlen := fun w => putIntR (p.length : Int) (tx (enc p.length)) w (by omega) (by omega) (Lib.hid (by simp))
  have e8 := u64_in (p.length : Int) (by omega) (by omega)
  have HF := Lib.hid hfit
  have HST := Lib.hid (show ∀ k, k < p.length → (tx (enc p.length ++ encL (p.take k))).size + 10 ≤ 100 by
    intro k hk
    have h1 := encL_len (p.take k) fun n hn => hfit n (List.mem_of_mem_take hn)
    have h2 := enc_len10 p.length (by omega)
    rw [tx_size, List.length_append]
    rw [List.length_take] at h1; omega)
  clear hp hfit h
  obtain ⟨s0, hs0⟩ : ∃ s0, tx (enc p.length) = s0 := ⟨_, rfl⟩
  rw [hs0] at hlen
  have HS0 := Lib.hid hs0
  clear hs0
  go_enter Try.func44, Try.ntmps44
  go_wp2_with (first
    | (go_at_call 78; (with_reducible refine hn.mono ?_); rintro e w1 ⟨v1, rfl, hN1, hb1⟩; obtain ⟨a1, cap1, rfl⟩ := hN1.slice)
    | (go_at_call 40; (with_reducible refine (hlen _).mono ?_); rintro e w2 ⟨rfl, hb2⟩))
  have HN := Lib.hid hN1
  have HB1 := Lib.hid hb1
  have HB2 := Lib.hid hb2
  have HEND := Lib.hid hs.out
  clear hn hlen hN1 hb1 hb2 hs
  go_loopw [4, 5] (fun t i wr => ∃ (k : Nat), k ≤ p.length ∧ i = .int .i64 (k : Int) ∧ t = .string (tx (enc p.length ++ encL (p.take k))) ∧ Below w1.heap.size w1 wr) (fun _ i _ => p.length - (intOf i).toNat)
  case atStart => exact ⟨0, by omega, rfl, by rw [← HS0.out]; simp [encL], HB2.out⟩
  case round =>
    obtain ⟨k, hk, rfl, rfl, hb⟩ := hrel
    by_cases hkn : k < p.length
    · have hk2 : (k : Int) < (p.length : Int) := by omega
      obtain ⟨-, b1, off1, rfl, g1⟩ := (HN.out.below hb).cell (by omega)
      have c1 := g1 k hkn
      obtain ⟨h0, h1⟩ := HF.out _ (List.getElem_mem hkn)
      obtain ⟨x, hx⟩ : ∃ x, p[k] = x := ⟨_, rfl⟩
      rw [hx] at c1 h0 h1
      have e9 := u64_in x h0 h1
      obtain ⟨y, hy⟩ : ∃ y, tx (enc x.toNat) = y := ⟨_, rfl⟩
      have hpx := fun w => putIntR x y w h0 h1 (Lib.hid hy)
      have hyz : y.size ≤ 10 := by rw [← hy, tx_size]; exact enc_len10 _ (by omega)
      have hsk := HST.out k hkn
      obtain ⟨t0, ht0⟩ : ∃ t0, tx (enc p.length ++ encL (p.take k)) = t0 := ⟨_, rfl⟩
      rw [ht0] at hsk ⊢
      have hq1 : t0.size + y.size ≤ 9223372036854775807 := by omega
      have hq2 : ¬ 9223372036854775807 < t0.size + y.size := by omega
      have HK := Lib.hid (show t0 ++ y = tx (enc p.length ++ encL (p.take (k + 1))) by rw [← ht0, ← hy, tx_app, List.append_assoc, ← hx, ← encL_snoc p k hkn])
      have HB := Lib.hid hb
      clear g1 hx hy ht0 hsk hyz hkn hb
      go_wp2_with (go_at_call 40; (with_reducible refine (hpx _).mono ?_); rintro e w3 ⟨rfl, hb3⟩)
      go_roundw
      case rel => exact ⟨k + 1, by omega, by go_num, by rw [← HK.out], HB.out.trans (hb3.mono HB.out.size)⟩
      case measure => simp [intOf]; omega
    · obtain rfl : k = p.length := by omega
      have hk2 : ¬ (p.length : Int) < (p.length : Int) := by omega
      have HB := Lib.hid hb
      clear hkn hk hb
      go_wp2
      go_ret
      exact ⟨by rw [← HEND.out]; rfl, HB1.out.trans (HB.out.mono HB1.out.size)⟩
end Go.Proofs.Ytjckphmkhikpaaa

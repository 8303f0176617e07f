/- Contracts of package mark's Covers, Compare, Right, Text, of slices.Equal, and of the document's Same. -/
import Derived.Test.YtjckphmkhikpaaaMarkVecs
import Derived.WalkSmall
namespace Go.Proofs.Ytjckphmkhikpaaa
open Go.RowKit Go.Proofs.Ytjckphmkhikpaaa.Vi Go.Proofs.Ytjckphmkhikpaaa.Mk

/-- Whether two lists are the same. -/
def sameL (a b : List Int) : Bool := decide (a = b)
theorem sameL_len {a b : List Int} (h : a.length ≠ b.length) : sameL a b = false := by
  unfold sameL; simp; intro e; exact h (by rw [e])
theorem sameL_no {a b : List Int} {k : Nat} (h1 : k < a.length) (h2 : k < b.length) (h : a[k] ≠ b[k]) : sameL a b = false := by
  unfold sameL; simp; rintro rfl; exact h rfl
theorem sameL_yes {a b : List Int} (hl : a.length = b.length) (h : ∀ j (h1 : j < a.length) (h2 : j < b.length), a[j] = b[j]) : sameL a b = true := by
  unfold sameL; simp; exact List.ext_getElem hl h
theorem Nums.cell {w : World} {B : Nat} {a : Option Addr} {len cap : Nat} {l : List Int} (h : Nums w B (.slice a len cap) l) (h0 : 0 < l.length) : len = l.length ∧ ∃ b off, a = some ⟨b, off, none⟩ ∧ ∀ j (h : j < l.length), w.cell? ⟨b, off + j, none⟩ = some (.int .i64 l[j]) := by
  obtain ⟨⟨a', cap', h1, h2⟩, _⟩ := h
  injection h1 with e1 e2 e3
  subst e1 e2
  rcases h2 with rfl | ⟨b, off, h3, _, h4⟩
  · simp at h0
  · exact ⟨rfl, b, off, h3, h4⟩

-- TWICE

set_option maxHeartbeats 1000000 in
theorem equal_is (v1 v2 : Value) (l1 l2 : List Int) (B1 B2 : Nat) (w : World) (h1 : Nums w B1 v1 l1) (h2 : Nums w B2 v2 l2) : Calls Try.prog 81 #[v1, v2] w fun e w' => e = .returned (.bool (sameL l1 l2)) ∧ Below w.heap.size w w' := by
  obtain ⟨z, hz⟩ : ∃ z, sameL l1 l2 = z := ⟨_, rfl⟩
  have HZ := Lib.hid hz
  rw [hz]
  clear hz
  obtain ⟨a1, cap1, rfl⟩ := h1.slice
  obtain ⟨a2, cap2, rfl⟩ := h2.slice
  have hr1 := h1.room
  have hr2 := h2.room
  have hs1 := h1.size
  have hs2 := h2.size
  have H1 := Lib.hid h1
  have H2 := Lib.hid h2
  clear h1 h2
  by_cases hlen : l1.length = l2.length
  · obtain ⟨n, hn⟩ : ∃ n, l2.length = n := ⟨_, rfl⟩
    have HN := Lib.hid hn
    have HN1 := Lib.hid (hlen.trans hn)
    rw [hlen.trans hn, hn]
    rw [hn] at hs2
    clear hlen hn hs1
    go_enter Try.func81, Try.ntmps81
    go_wp2
    go_loopw [13] (fun i wr => ∃ k : Nat, k ≤ n ∧ i = .int .i64 (k : Int) ∧ Below w.heap.size w wr ∧ ∀ j (h1 : j < l1.length) (h2 : j < l2.length), j < k → l1[j] = l2[j]) (fun i _ => n - (intOf i).toNat)
    case atStart => exact ⟨0, by omega, rfl, Below.refl _ _, fun j _ _ hj => absurd hj (Nat.not_lt_zero _)⟩
    case round =>
      obtain ⟨k, hk, rfl, hbel, hall⟩ := hrel
      have HALL := Lib.hid hall
      clear hall
      by_cases hkn : k < n
      · have hk2 : (k : Int) < (n : Int) := by omega
        have hkl1 : k < l1.length := by rw [HN1.out]; exact hkn
        have hkl2 : k < l2.length := by rw [HN.out]; exact hkn
        obtain ⟨-, b1, off1, rfl, g1⟩ := (H1.out.next hbel).cell (by omega)
        obtain ⟨-, b2, off2, rfl, g2⟩ := (H2.out.next hbel).cell (by omega)
        have c1 := g1 k hkl1
        have c2 := g2 k hkl2
        obtain ⟨x, hx⟩ : ∃ x, l1[k] = x := ⟨_, rfl⟩
        obtain ⟨y, hy⟩ : ∃ y, l2[k] = y := ⟨_, rfl⟩
        rw [hx] at c1
        rw [hy] at c2
        have HX := Lib.hid hx
        have HY := Lib.hid hy
        have HB := Lib.hid hbel
        clear g1 g2 hx hy hbel
        by_cases hxy : x = y
        · have hq : (x == y) = true := by simpa using hxy
          clear hkn
          go_wp2_with fail
          go_quiet (fail)
          go_wp2
          go_roundw
          case rel =>
            refine ⟨k + 1, by omega, by go_num, below_drewN HB.out _, fun j h1 h2 hj => ?_⟩
            by_cases e : j = k
            · subst e; rw [HX.out, HY.out]; exact hxy
            · exact HALL.out j h1 h2 (by omega)
          case measure => simp [intOf]; omega
        · have hq : (x == y) = false := by simpa using hxy
          have HNE := Lib.hid hxy
          clear hxy
          go_wp2_with fail
          go_quiet (fail)
          go_wp2
          go_ret
          exact ⟨by rw [← HZ.out, sameL_no (k := k) (by rw [HN1.out]; exact hkn) (by rw [HN.out]; exact hkn) (by rw [HX.out, HY.out]; exact HNE.out)]; rfl, below_drewN HB.out _⟩
      · obtain rfl : k = n := by omega
        have hk2 : ¬ (k : Int) < (k : Int) := by omega
        clear hkn
        go_wp2
        go_ret
        exact ⟨by rw [← HZ.out, sameL_yes (HN1.out.trans HN.out.symm) fun j h1 h2 => HALL.out j h1 h2 (by rw [← HN1.out]; exact h1)]; rfl, hbel⟩
  · have hl2 : ((l1.length : Int) == (l2.length : Int)) = false := by simp; omega
    have HL := Lib.hid (sameL_len hlen)
    clear hlen
    go_enter Try.func81, Try.ntmps81
    go_wp2
    go_ret
    exact ⟨by rw [← HZ.out, HL.out]; rfl, Below.refl _ _⟩

set_option maxHeartbeats 1000000 in
theorem rsame_is (v1 v2 : Value) (l1 l2 : List Int) (B1 B2 : Nat) (w : World) (h1 : Nums w B1 v1 l1) (h2 : Nums w B2 v2 l2) : Calls Try.prog 71 #[v1, v2] w fun e w' => e = .returned (.bool (sameL l1 l2)) ∧ Below w.heap.size w w' := by
  obtain ⟨z, hz⟩ : ∃ z, sameL l1 l2 = z := ⟨_, rfl⟩
  have HZ := Lib.hid hz
  rw [hz]
  clear hz
  obtain ⟨a1, cap1, rfl⟩ := h1.slice
  obtain ⟨a2, cap2, rfl⟩ := h2.slice
  have hr1 := h1.room
  have hr2 := h2.room
  have hs1 := h1.size
  have hs2 := h2.size
  have H1 := Lib.hid h1
  have H2 := Lib.hid h2
  clear h1 h2
  by_cases hlen : l1.length = l2.length
  · obtain ⟨n, hn⟩ : ∃ n, l2.length = n := ⟨_, rfl⟩
    have HN := Lib.hid hn
    have HN1 := Lib.hid (hlen.trans hn)
    rw [hlen.trans hn, hn]
    rw [hn] at hs2
    clear hlen hn hs1
    go_enter Try.func71, Try.ntmps71
    go_wp2
    go_loopw [5] (fun i wr => ∃ k : Nat, k ≤ n ∧ i = .int .i64 (k : Int) ∧ Below w.heap.size w wr ∧ ∀ j (h1 : j < l1.length) (h2 : j < l2.length), j < k → l1[j] = l2[j]) (fun i _ => n - (intOf i).toNat)
    case atStart => exact ⟨0, by omega, rfl, Below.refl _ _, fun j _ _ hj => absurd hj (Nat.not_lt_zero _)⟩
    case round =>
      obtain ⟨k, hk, rfl, hbel, hall⟩ := hrel
      have HALL := Lib.hid hall
      clear hall
      by_cases hkn : k < n
      · have hk2 : (k : Int) < (n : Int) := by omega
        have hkl1 : k < l1.length := by rw [HN1.out]; exact hkn
        have hkl2 : k < l2.length := by rw [HN.out]; exact hkn
        obtain ⟨-, b1, off1, rfl, g1⟩ := (H1.out.next hbel).cell (by omega)
        obtain ⟨-, b2, off2, rfl, g2⟩ := (H2.out.next hbel).cell (by omega)
        have c1 := g1 k hkl1
        have c2 := g2 k hkl2
        obtain ⟨x, hx⟩ : ∃ x, l1[k] = x := ⟨_, rfl⟩
        obtain ⟨y, hy⟩ : ∃ y, l2[k] = y := ⟨_, rfl⟩
        rw [hx] at c1
        rw [hy] at c2
        have HX := Lib.hid hx
        have HY := Lib.hid hy
        have HB := Lib.hid hbel
        clear g1 g2 hx hy hbel
        by_cases hxy : x = y
        · have hq : (x == y) = true := by simpa using hxy
          clear hkn
          go_wp2_with fail
          go_quiet (fail)
          go_wp2
          go_roundw
          case rel =>
            refine ⟨k + 1, by omega, by go_num, below_drewN HB.out _, fun j h1 h2 hj => ?_⟩
            by_cases e : j = k
            · subst e; rw [HX.out, HY.out]; exact hxy
            · exact HALL.out j h1 h2 (by omega)
          case measure => simp [intOf]; omega
        · have hq : (x == y) = false := by simpa using hxy
          have HNE := Lib.hid hxy
          clear hxy
          go_wp2_with fail
          go_quiet (fail)
          go_wp2
          go_ret
          exact ⟨by rw [← HZ.out, sameL_no (k := k) (by rw [HN1.out]; exact hkn) (by rw [HN.out]; exact hkn) (by rw [HX.out, HY.out]; exact HNE.out)]; rfl, below_drewN HB.out _⟩
      · obtain rfl : k = n := by omega
        have hk2 : ¬ (k : Int) < (k : Int) := by omega
        clear hkn
        go_wp2
        go_ret
        exact ⟨by rw [← HZ.out, sameL_yes (HN1.out.trans HN.out.symm) fun j h1 h2 => HALL.out j h1 h2 (by rw [← HN1.out]; exact h1)]; rfl, hbel⟩
  · have hl2 : ((l1.length : Int) == (l2.length : Int)) = false := by simp; omega
    have HL := Lib.hid (sameL_len hlen)
    clear hlen
    go_enter Try.func71, Try.ntmps71
    go_wp2
    go_ret
    exact ⟨by rw [← HZ.out, HL.out]; rfl, Below.refl _ _⟩

/-- At most twelve numbers of it. -/
def CutN (B : Nat) (l : List Int) (w : World) (e : Ending) (w' : World) : Prop := ∃ v', e = .returned v' ∧ Nums w B v' (l.take 12) ∧ w = w'
theorem right_is (v : Value) (l : List Int) (B : Nat) (w : World) (h : Nums w B v l) : Calls Try.prog 48 #[v] w fun e w' => e = .returned (.bool (sameL l (plainL l))) ∧ Below w.heap.size w w' := by
  have hn := normal_is v l B w h
  obtain ⟨z, hz⟩ : ∃ z, sameL l (plainL l) = z := ⟨_, rfl⟩
  have hq := fun v' w' (h' : Nums w' w'.heap.size v' (plainL l)) (hb : Below w.heap.size w w') => equal_is v v' l (plainL l) B w'.heap.size w' (h.next hb) h'
  rw [hz] at hq ⊢
  clear h hz
  go_enter Try.func48, Try.ntmps48
  go_wp2_with (first
    | (go_at_call 75; (with_reducible refine hn.mono ?_); rintro e w1 ⟨v1, rfl, hN1, hb1⟩)
    | (go_at_call 81; (with_reducible refine (hq _ _ hN1 hb1).mono ?_); rintro e w2 ⟨rfl, hb2⟩))
  go_ret
  exact ⟨rfl, hb1.trans (hb2.mono hb1.size)⟩

/-- The bytes of numbers, one behind the other. -/
def encL (l : List Int) : List UInt8 := l.flatMap fun n => enc n.toNat
def textL (l : List Int) : List UInt8 := enc l.length ++ encL l
theorem encL_snoc (l : List Int) (k : Nat) (h : k < l.length) : encL (l.take (k + 1)) = encL (l.take k) ++ enc (l[k]).toNat := by
  unfold encL
  rw [List.take_succ_eq_append_getElem h, List.flatMap_append]; simp
theorem encL_len (l : List Int) (h : ∀ n ∈ l, 0 ≤ n ∧ n ≤ 1099511627776) : (encL l).length ≤ 10 * l.length := by
  induction l with
  | nil => simp [encL]
  | cons a t ih =>
    have h1 := ih fun n hn => h n (List.mem_cons_of_mem _ hn)
    have h2 := h a (List.mem_cons_self ..)
    have h3 := enc_len10 a.toNat (by omega)
    have e : encL (a :: t) = enc a.toNat ++ encL t := by simp [encL]
    rw [e, List.length_append, List.length_cons]; omega
theorem textL_len (l : List Int) (h : ∀ n ∈ l, 0 ≤ n ∧ n ≤ 1099511627776) (hl : l.length ≤ 8) : (textL l).length ≤ 90 := by
  have h1 := encL_len l h
  have h2 := enc_len10 l.length (by omega)
  unfold textL; rw [List.length_append]; omega
theorem putInt (n : Int) (s : ByteArray) (w : World) (h0 : 0 ≤ n) (h1 : n ≤ 1099511627776) (hs : Hid (tx (enc n.toNat) = s)) : Calls Try.prog 35 #[.int .u64 n] w (TextDone s w) := by
  have := put_is n.toNat s w (by omega) hs
  rw [Int.toNat_of_nonneg h0] at this
  exact this
theorem putIntR (n : Int) (s : ByteArray) (w : World) (h0 : 0 ≤ n) (h1 : n ≤ 1099511627776) (hs : Hid (tx (enc n.toNat) = s)) : Calls Try.prog 40 #[.int .u64 n] w (TextDone s w) := by
  have := refPut_is n.toNat s w (by omega) hs
  rw [Int.toNat_of_nonneg h0] at this
  exact this
theorem u64_in (n : Int) (h0 : 0 ≤ n) (h1 : n ≤ 1099511627776) : IntKind.u64.wrap n = n := by rw [IntKind.wrap_u64]; omega

set_option maxHeartbeats 1000000 in
theorem vtext_is (v : Value) (l : List Int) (s : ByteArray) (B : Nat) (w : World) (h : Nums w B v l) (hs : Hid (tx (textL (plainL l)) = s)) : Calls Try.prog 36 #[v] w (TextDone s w) := by
  have hn := normal_is v l B w h
  obtain ⟨p, hp⟩ : ∃ p, plainL l = p := ⟨_, rfl⟩
  have hfit : ∀ n ∈ p, 0 ≤ n ∧ n ≤ 1099511627776 := by rw [← hp]; exact vec_fit (atL_fit l)
  have hp8 : p.length ≤ 8 := by rw [← hp]; exact vec_size _
  have hsz : s.size ≤ 90 := by rw [← hs.out, tx_size, hp]; exact textL_len p hfit hp8
  rw [hp] at hn hs
  have hlen := fun w => putInt (p.length : Int) (tx (enc p.length)) w (by omega) (by omega) (Lib.hid (by simp))
  have e8 := u64_in (p.length : Int) (by omega) (by omega)
  have HF := Lib.hid hfit
  have HST := Lib.hid (show ∀ k, k < p.length → (tx (enc p.length ++ encL (p.take k))).size + 10 ≤ 100 by
    intro k hk
    have h1 := encL_len (p.take k) fun n hn => hfit n (List.mem_of_mem_take hn)
    have h2 := enc_len10 p.length (by omega)
    rw [tx_size, List.length_append]
    rw [List.length_take] at h1; omega)
  clear hp hfit h
  obtain ⟨s0, hs0⟩ : ∃ s0, tx (enc p.length) = s0 := ⟨_, rfl⟩
  rw [hs0] at hlen
  have HS0 := Lib.hid hs0
  clear hs0
  go_enter Try.func36, Try.ntmps36
  go_wp2_with (first
    | (go_at_call 75; (with_reducible refine hn.mono ?_); rintro e w1 ⟨v1, rfl, hN1, hb1⟩; obtain ⟨a1, cap1, rfl⟩ := hN1.slice)
    | (go_at_call 35; (with_reducible refine (hlen _).mono ?_); rintro e w2 ⟨rfl, hb2⟩))
  have HN := Lib.hid hN1
  have HB1 := Lib.hid hb1
  have HB2 := Lib.hid hb2
  have HEND := Lib.hid hs.out
  clear hn hlen hN1 hb1 hb2 hs
  go_loopw [3, 14] (fun t i wr => ∃ (k : Nat), k ≤ p.length ∧ i = .int .i64 (k : Int) ∧ t = .string (tx (enc p.length ++ encL (p.take k))) ∧ Below w1.heap.size w1 wr) (fun _ i _ => p.length - (intOf i).toNat)
  case atStart => exact ⟨0, by omega, rfl, by rw [← HS0.out]; simp [encL], HB2.out⟩
  case round =>
    obtain ⟨k, hk, rfl, rfl, hb⟩ := hrel
    by_cases hkn : k < p.length
    · have hk2 : (k : Int) < (p.length : Int) := by omega
      obtain ⟨-, b1, off1, rfl, g1⟩ := (HN.out.below hb).cell (by omega)
      have c1 := g1 k hkn
      obtain ⟨h0, h1⟩ := HF.out _ (List.getElem_mem hkn)
      obtain ⟨x, hx⟩ : ∃ x, p[k] = x := ⟨_, rfl⟩
      rw [hx] at c1 h0 h1
      have e9 := u64_in x h0 h1
      obtain ⟨y, hy⟩ : ∃ y, tx (enc x.toNat) = y := ⟨_, rfl⟩
      have hpx := fun w => putInt x y w h0 h1 (Lib.hid hy)
      have hyz : y.size ≤ 10 := by rw [← hy, tx_size]; exact enc_len10 _ (by omega)
      have hsk := HST.out k hkn
      obtain ⟨t0, ht0⟩ : ∃ t0, tx (enc p.length ++ encL (p.take k)) = t0 := ⟨_, rfl⟩
      rw [ht0] at hsk ⊢
      have hq1 : t0.size + y.size ≤ 9223372036854775807 := by omega
      have hq2 : ¬ 9223372036854775807 < t0.size + y.size := by omega
      have HK := Lib.hid (show t0 ++ y = tx (enc p.length ++ encL (p.take (k + 1))) by rw [← ht0, ← hy, tx_app, List.append_assoc, ← hx, ← encL_snoc p k hkn])
      have HB := Lib.hid hb
      clear g1 hx hy ht0 hsk hyz hkn hb
      go_wp2_with (go_at_call 35; (with_reducible refine (hpx _).mono ?_); rintro e w3 ⟨rfl, hb3⟩)
      go_roundw
      case rel => exact ⟨k + 1, by omega, by go_num, by rw [← HK.out], HB.out.trans (hb3.mono HB.out.size)⟩
      case measure => simp [intOf]; omega
    · obtain rfl : k = p.length := by omega
      have hk2 : ¬ (p.length : Int) < (p.length : Int) := by omega
      have HB := Lib.hid hb
      clear hkn hk hb
      go_wp2
      go_ret
      exact ⟨by rw [← HEND.out]; rfl, HB1.out.trans (HB.out.mono HB1.out.size)⟩
end Go.Proofs.Ytjckphmkhikpaaa

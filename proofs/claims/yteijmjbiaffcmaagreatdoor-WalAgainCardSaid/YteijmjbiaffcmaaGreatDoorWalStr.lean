/- Contracts of package wal's Segment and Number. -/
import Derived.Test.YteijmjbiaffcmaaGreatDoorWalNm
import Derived.Test.YteijmjbiaffcmaaGreatDoorWalLay
import Derived.Test.YteijmjbiaffcmaaGreatDoorFramePut
import Derived.Lib.SmallJoins
import Derived.Lib.AppendIntMem
set_option maxRecDepth 20000
set_option linter.unusedSimpArgs false
set_option linter.unusedVariables false
namespace Go.Proofs.YteijmjbiaffcmaaGreatDoor
open Go.RowKit Go.Shelf Go.Proofs.YteijmjbiaffcmaaGreatDoor.Vi Go.Proofs.YteijmjbiaffcmaaGreatDoor.Crc Go.Proofs.YteijmjbiaffcmaaGreatDoor.Fr

/-- The listed package-level variables, as they stand. -/
structure Glob (w : World) : Prop where
  tab : Tab w
  p10 : Lib.TabIs Tryz.prog w "internal/strconv.uint64pow10" .u64 Lib.pow10Tab
  esy : ∃ te pe, w.cell? ⟨0, 0, none⟩ = some (.iface te pe)
  era : ∃ te pe, w.cell? ⟨1, 0, none⟩ = some (.iface te pe)
theorem Glob.below {w w' : World} (h : Glob w) (k : Below w.heap.size w w') : Glob w' := by
  refine ⟨h.tab.below k h.tab.room, Lib.TabBelow.here (fun w'' k2 => (Lib.tabBelow_of_tabIs h.p10) w'' (bel_next k k2 |>.mono (Nat.le_refl _))), ?_, ?_⟩
  · obtain ⟨te, pe, e⟩ := h.esy
    exact ⟨te, pe, (k.cell (p := ⟨_, 0, none⟩) (World.block_lt_of_cell? w _ e)).trans e⟩
  · obtain ⟨te, pe, e⟩ := h.era
    exact ⟨te, pe, (k.cell (p := ⟨_, 0, none⟩) (World.block_lt_of_cell? w _ e)).trans e⟩
theorem itoa_any (n : Int) (s : ByteArray) (w : World) (h0 : -9223372036854775808 ≤ n) (h1 : n ≤ 9223372036854775807) (G : Glob w) (H : Hid (tx (Lib.itoa n) = s)) :
    Calls Tryz.prog 41 #[.int .i64 n] w fun e w' => e = .returned (.string s) ∧ Below w.heap.size w w' := by
  have k : Calls Tryz.prog 41 #[.int .i64 n] w fun e w' => e = .returned (.string ⟨(Lib.itoa n).toArray⟩) ∧ ∃ k os, w' = Sort.grow (w.drewN k) os := Any.strconv_Itoa itoaL n h0 h1 w G.p10
  refine k.mono fun e w' ⟨he, q, os, hw⟩ => ⟨?_, ?_⟩
  · rw [he, ← H.out]; rfl
  · rw [hw]; exact Lib.below_grow _ _ (Nat.le_refl _) _ _
theorem repeat_any (c : Nat) (s : ByteArray) (w : World) (hc : c ≤ 8) (H : Hid (tx (Lib.repeatL [48] c) = s)) :
    Calls Tryz.prog 42 #[.string ⟨#[48]⟩, .int .i64 (c : Int)] w fun e w' => e = .returned (.string s) ∧ Below w.heap.size w w' := by
  have k : Calls Tryz.prog 42 #[.string ⟨#[48]⟩, .int .i64 (c : Int)] w fun e w' => e = .returned (.string ⟨(Lib.repeatL [48] c).toArray⟩) ∧ Below w.heap.size w w' := Any.strings_Repeat repeatL extraL ⟨#[48]⟩ c w (by omega) (by show 1 * c ≤ _; omega)
  exact k.mono fun e w' ⟨he, hw⟩ => ⟨by rw [he, ← H.out]; rfl, hw⟩
set_option maxHeartbeats 2000000 in
theorem segment_is (n : Int) (t : ByteArray) (w : World) (h0 : -9223372036854775808 ≤ n) (h1 : n ≤ 9223372036854775807) (G : Glob w) (H : Hid (tx (segI n) = t)) :
    Calls Tryz.prog 13 #[.int .i64 n] w fun e w' => e = .returned (.string t) ∧ Below w.heap.size w w' := by
  by_cases hr : 1 ≤ n ∧ n ≤ 99999999
  · obtain ⟨r0, r1⟩ := hr
    have n0 : ¬ n < 1 := by omega
    have n1 : ¬ 99999999 < n := by omega
    obtain ⟨s, hs⟩ : ∃ s, tx (Lib.itoa n) = s := ⟨_, rfl⟩
    have hsz : s.size ≤ 8 := by rw [← hs, tx_size]; exact itoa_len8 r0 r1
    obtain ⟨c, hc⟩ : ∃ c : Nat, 8 - s.size = c := ⟨_, rfl⟩
    obtain ⟨z, hz⟩ : ∃ z, tx (Lib.repeatL [48] c) = z := ⟨_, rfl⟩
    have hzz : z.size = c := by rw [← hz, tx_size, Lib.repeatL_length]; simp
    have hcw : (8 : Int) - (s.size : Int) = (c : Int) := by omega
    have hcw2 : IntKind.i64.wrap ((8 : Int) - (s.size : Int)) = (c : Int) := by rw [IntKind.wrap_i64]; omega
    have ki := itoa_any n s w h0 h1 G (Lib.hid hs)
    have kr := fun w => repeat_any c z w (by omega) (Lib.hid hz)
    have HT := Lib.hid (show (⟨#[119, 46]⟩ : ByteArray) ++ z ++ s = t by
      rw [← H.out, segI_pos r0 r1, ← hz, ← hs, show (⟨#[119, 46]⟩ : ByteArray) = tx [119, 46] from rfl, tx_app, tx_app, ← hc, ← hs, tx_size]
      rfl)
    have hz2 : (⟨#[119, 46]⟩ : ByteArray).size + z.size ≤ 9223372036854775807 := by show 2 + _ ≤ _; omega
    have hz3 : ((⟨#[119, 46]⟩ : ByteArray) ++ z).size + s.size ≤ 9223372036854775807 := by rw [ByteArray.size_append]; show 2 + _ + _ ≤ _; omega
    clear hs hc hz H hcw
    go_enter Tryz.func13, Tryz.ntmps13
    go_wp2_with (first
      | (go_at_call 41; (with_reducible refine ki.mono ?_); rintro e w1 ⟨rfl, hB1⟩; clear ki)
      | (go_at_call 42; (with_reducible refine (kr _).mono ?_); rintro e w2 ⟨rfl, hB2⟩; clear kr))
    go_ret
    exact ⟨by rw [← HT.out]; rfl, bel_next hB1 hB2⟩
  · have ht : t = ⟨#[]⟩ := by rw [← H.out]; unfold segI; rw [if_neg hr]; rfl
    subst ht
    by_cases n0 : n < 1
    · go_enter Tryz.func13, Tryz.ntmps13
      go_wp2
      go_ret
      exact ⟨rfl, Below.refl _ _⟩
    · have n1 : 99999999 < n := by omega
      clear hr
      go_enter Tryz.func13, Tryz.ntmps13
      go_wp2
      go_ret
      exact ⟨rfl, Below.refl _ _⟩
theorem trim_any (s t : ByteArray) (w : World) (H : Hid (tx (Lib.trimPrefix s.data.toList [119, 46]) = t)) : Calls Tryz.prog 40 #[.string s, .string ⟨#[119, 46]⟩] w fun e w' => e = .returned (.string t) ∧ Below w.heap.size w w' := by
  have k : Calls Tryz.prog 40 #[.string s, .string ⟨#[119, 46]⟩] w fun e w' => e = .returned (.string ⟨(Lib.trimPrefix s.data.toList [119, 46]).toArray⟩) ∧ w' = w := Any.strings_TrimPrefix trimL s ⟨#[119, 46]⟩ w
  exact k.mono fun e w' ⟨he, hw⟩ => ⟨by rw [he, ← H.out]; rfl, by rw [hw]; exact Below.refl _ _⟩
theorem atoi_yes (s : ByteArray) (v : Int) (w : World) (hs : s.size ≤ 1000000) (h : Lib.atoiAll s.data.toList = .ok v) : Calls Tryz.prog 39 #[.string s] w fun e w' => e = .returned (.tuple #[.int .i64 v, .nilIface]) ∧ Below w.heap.size w w' := by
  have k : Calls Tryz.prog 39 #[.string s] w fun e w' => e = .returned (.tuple #[.int .i64 v, .nilIface]) ∧ (w' = w ∨ ∃ t, w' = Lib.bytesWorld w 5 t) := Any.strconv_Atoi_ok atoiL s (by omega) v h w
  refine k.mono fun e w' ⟨he, hw⟩ => ⟨he, ?_⟩
  rcases hw with hw | ⟨t, hw⟩
  · rw [hw]; exact Below.refl _ _
  · rw [hw]; exact Lib.bytesWorld_below _ _ _
theorem atoi_no (s : ByteArray) (w : World) (hs : s.size ≤ 1000000) (h : ∀ v, Lib.atoiAll s.data.toList ≠ .ok v) (G : Glob w) : Calls Tryz.prog 39 #[.string s] w fun e w' => ∃ (x : Int) (te : TypeId) (q : Nat), e = .returned (.tuple #[.int .i64 x, .iface te (.pointer (some ⟨q, 0, none⟩))]) ∧ Below w.heap.size w w' := by
  rcases hc : Lib.atoiAll s.data.toList with v | _ | _
  · exact absurd hc (h v)
  · obtain ⟨te, pe, e⟩ := G.esy
    exact (Any.strconv_Atoi_syntax atoiL s (by omega) hc _ w e (Or.inr ⟨te, pe, rfl⟩)).mono fun _ _ ⟨N, he, _, _, hB⟩ => ⟨_, _, _, he, hB⟩
  · obtain ⟨te, pe, e⟩ := G.era
    exact (Any.strconv_Atoi_range atoiL s (by omega) hc _ w e (Or.inr ⟨te, pe, rfl⟩)).mono fun _ _ ⟨N, he, _, _, hB⟩ => ⟨_, _, _, he, hB⟩
def numV (s : ByteArray) : Int × Bool := match numN s.data.toList with | some n => ((n : Int), true) | none => (0, false)
theorem trim_len (l p : List UInt8) : (Lib.trimPrefix l p).length ≤ l.length := by
  unfold Lib.trimPrefix
  split
  · simp
  · exact Nat.le_refl _
set_option maxHeartbeats 2000000 in
theorem number_is (s : ByteArray) (v : Int) (o : Bool) (w : World) (hs : s.size ≤ 1000000) (G : Glob w) (H : Hid (numV s = (v, o))) :
    Calls Tryz.prog 11 #[.string s] w fun e w' => e = .returned (.tuple #[.int .i64 v, .bool o]) ∧ Below w.heap.size w w' := by
  obtain ⟨t, ht⟩ : ∃ t, tx (Lib.trimPrefix s.data.toList [119, 46]) = t := ⟨_, rfl⟩
  have hts : t.size ≤ 1000000 := by
    rw [← ht, tx_size]
    have := trim_len s.data.toList [119, 46]
    have e : s.data.toList.length = s.size := by simp
    omega
  have htl : t.data.toList = Lib.trimPrefix s.data.toList [119, 46] := by rw [← ht]; simp [tx]
  have kt := trim_any s t w (Lib.hid ht)
  have hN := H.out
  unfold numV numN at hN
  rw [← htl] at hN
  clear ht H
  rcases hc : Lib.atoiAll t.data.toList with x | _ | _
  · have hb := Lib.atoiAll_bounds hc
    have ka := fun w => atoi_yes t x w hts hc
    rw [hc] at hN
    dsimp only at hN
    obtain ⟨u, hu⟩ : ∃ u, tx (segI x) = u := ⟨_, rfl⟩
    by_cases hsg : segI x = s.data.toList
    · have hus : u = s := by rw [← hu, hsg, tx_list]
      have hx1 : 1 ≤ x := by
        apply Int.not_lt.1
        intro hlt
        have h0 : segI x = [] := by unfold segI; rw [if_neg (by omega)]
        rw [h0] at hsg
        have : t.data.toList = [] := by rw [htl, ← hsg]; rfl
        rw [this] at hc
        cases hc
      rw [if_pos hsg] at hN
      dsimp only at hN
      obtain ⟨rfl, rfl⟩ := Prod.mk.inj hN
      have hxx : ((x.toNat : Nat) : Int) = x := Int.toNat_of_nonneg (by omega)
      rw [hxx]
      have ks := fun w G => segment_is x u w hb.1 hb.2 G (Lib.hid hu)
      rw [hus] at ks
      clear hu hus hc hsg htl hN hxx hb
      go_enter Tryz.func11, Tryz.ntmps11
      go_wp2_with (first
        | (go_at_call 40; (with_reducible refine kt.mono ?_); rintro e w1 ⟨rfl, hB1⟩; (have HB1 := Lib.hid hB1); clear kt hB1)
        | (go_at_call 39; (with_reducible refine (ka _).mono ?_); rintro e w2 ⟨rfl, hB2⟩; (have HB2 := Lib.hid (bel_next HB1.out hB2)); clear ka hB2)
        | (go_at_call 13; (with_reducible refine (ks _ (G.below HB2.out)).mono ?_); rintro e w3 ⟨rfl, hB3⟩; (have HB3 := Lib.hid (bel_next HB2.out hB3)); clear ks hB3))
      go_ret2
      exact ⟨rfl, HB3.out⟩
    · have hus : ¬ u = s := fun e => hsg (by rw [← tx_list s] at e; exact tx_inj (hu.trans e))
      rw [if_neg hsg] at hN
      dsimp only at hN
      obtain ⟨rfl, rfl⟩ := Prod.mk.inj hN
      have ks := fun w G => segment_is x u w hb.1 hb.2 G (Lib.hid hu)
      have hul2 := str_ne hus
      clear hu hc hsg htl hN hb
      go_enter Tryz.func11, Tryz.ntmps11
      go_wp2_with (first
        | (go_at_call 40; (with_reducible refine kt.mono ?_); rintro e w1 ⟨rfl, hB1⟩; (have HB1 := Lib.hid hB1); clear kt hB1)
        | (go_at_call 39; (with_reducible refine (ka _).mono ?_); rintro e w2 ⟨rfl, hB2⟩; (have HB2 := Lib.hid (bel_next HB1.out hB2)); clear ka hB2)
        | (go_at_call 13; (with_reducible refine (ks _ (G.below HB2.out)).mono ?_); rintro e w3 ⟨rfl, hB3⟩; (have HB3 := Lib.hid (bel_next HB2.out hB3)); clear ks hB3))
      go_ret2
      exact ⟨rfl, HB3.out⟩
  all_goals
    rw [hc] at hN
    dsimp only at hN
    obtain ⟨rfl, rfl⟩ := Prod.mk.inj hN
    have ka := fun w G => atoi_no t w hts (fun v e => by rw [hc] at e; cases e) G
    clear hc htl hN
    go_enter Tryz.func11, Tryz.ntmps11
    go_wp2_with (first
      | (go_at_call 40; (with_reducible refine kt.mono ?_); rintro e w1 ⟨rfl, hB1⟩; (have HB1 := Lib.hid hB1); clear kt hB1)
      | (go_at_call 39; (with_reducible refine (ka _ (G.below HB1.out)).mono ?_); rintro e w2 ⟨x, te, q, rfl, hB2⟩; (have HB2 := Lib.hid (bel_next HB1.out hB2)); clear ka hB2))
    go_ret2
    exact ⟨rfl, HB2.out⟩
end Go.Proofs.YteijmjbiaffcmaaGreatDoor

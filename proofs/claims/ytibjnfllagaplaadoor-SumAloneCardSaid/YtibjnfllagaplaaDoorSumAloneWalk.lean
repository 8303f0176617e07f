/- The walk of law SumAlone: it returns true and turns nothing that was there. -/
import Derived.Test.YtibjnfllagaplaaDoorSumAwake
import Derived.Test.YtibjnfllagaplaaDoorBytesOf
import Derived.OpenShut
namespace Go.Proofs.YtibjnfllagaplaaDoor.sumAlone
open Go.RowKit Go.Proofs.YtibjnfllagaplaaDoor.Crc

/-- No sealed text stands where a byte of one is turned. -/
theorem not_opens (s : ByteArray) (n : Nat) (x : UInt8) (hx : x ≠ 0) (h : n < (sealed s.data.toList).length) : opens ⟨((sealed s.data.toList).set n ((sealed s.data.toList)[n] ^^^ x)).toArray⟩ = false := by
  unfold opens
  rw [decide_eq_false]
  rintro ⟨_, e⟩
  refine sealed_turn x hx s.data.toList n h ?_
  have e2 := congrArg (fun z : ByteArray => z.data.toList) e
  simp only [sealedB] at e2
  have hl : (⟨((sealed s.data.toList).set n ((sealed s.data.toList)[n] ^^^ x)).toArray⟩ : ByteArray).size - 4 = s.data.toList.length := by
    show ((sealed s.data.toList).set n ((sealed s.data.toList)[n] ^^^ x)).toArray.size - 4 = _
    rw [List.size_toArray, List.length_set, sealed_length]; omega
  rw [hl] at e2
  have e3 : ((⟨((sealed s.data.toList).set n ((sealed s.data.toList)[n] ^^^ x)).toArray⟩ : ByteArray).extract 0 s.data.toList.length).data.toList = ((sealed s.data.toList).set n ((sealed s.data.toList)[n] ^^^ x)).take s.data.toList.length := by
    simp
  rw [e3] at e2
  exact e2

set_option maxHeartbeats 1000000 in
theorem walk (s0 : ByteArray) (at_ tn : Int) (w : World) (_hs : s0.size ≤ maxLen) (hat : (Lit.int .i64 at_).wf = true) (htn : (Lit.int .u8 tn).wf = true) (ht : Tab w) :
    Calls Tryd.prog 8 #[.string s0, .int .i64 at_, .int .u8 tn] w fun e w' => e = .returned (.bool true) ∧ Below w.heap.size w w' := by
  have hat2 := bounds_i64 hat
  have htn2 := bounds_u8 htn
  clear hat htn
  obtain ⟨s, g1, _, short1⟩ := short_any s0 500 500 rfl (by decide)
  have z1 : s.size ≤ 100000 := by omega
  obtain ⟨u, hu⟩ : ∃ u, sealedB s = u := ⟨_, rfl⟩
  have hus : u.size = s.size + 4 := by rw [← hu, sealedB_size]
  have hul : u.data.toList = sealed s.data.toList := by rw [← hu]; rfl
  have hu1 : u.size ≤ 100000 := by omega
  have hu2 : u.size ≤ s.size + 4 := by omega
  have hu3 : s.size + 4 ≤ u.size := by omega
  have hpre : u.extract 0 s.size = s := by
    have := sealedB_body s
    rw [hu, hus] at this
    exact this
  have ho : Hid (opens u = true) := by show _ = _; rw [← hu]; exact opens_sealed s
  have hb : Hid (bodyOf u = s) := by show _ = _; rw [← hu]; exact bodyOf_sealed s
  have HU := Lib.hid hu
  clear hu
  obtain ⟨n, hn, hp, hq⟩ := place at_ u.size (by omega)
  have hnl : n < u.data.toList.length := by simpa using hn
  obtain ⟨x, hx0, hx1, hx2⟩ : ∃ x : UInt8, x ≠ 0 ∧ (tn = 0 → (1 : Int) = (x.toNat : Int)) ∧ (tn ≠ 0 → tn = (x.toNat : Int)) := by
    by_cases h : tn = 0
    · exact ⟨1, by decide, fun _ => rfl, fun h' => absurd h h'⟩
    · have e : (UInt8.ofNat tn.toNat).toNat = tn.toNat := by rw [UInt8.toNat_ofNat']; omega
      refine ⟨UInt8.ofNat tn.toNat, fun e0 => ?_, fun h' => absurd h' h, fun _ => ?_⟩
      · rw [e0] at e
        have : (0 : UInt8).toNat = 0 := rfl
        omega
      · omega
  obtain ⟨v, hv⟩ : ∃ v : ByteArray, v = ⟨(u.data.toList.set n (u.data.toList[n] ^^^ x)).toArray⟩ := ⟨_, rfl⟩
  have hv1 : v.size ≤ 100000 := by
    rw [hv]
    show (u.data.toList.set n (u.data.toList[n] ^^^ x)).toArray.size ≤ _
    rw [List.size_toArray, List.length_set]
    simpa using hu1
  have hvo : opens v = false := by
    have := not_opens s n x hx0 (by rw [← hul]; exact hnl)
    rw [hv]
    simpa only [hul] using this
  have hvb : bodyOf v = ⟨#[]⟩ := by unfold bodyOf; rw [hvo]; rfl
  have HVO := Lib.hid hvo
  have HVB := Lib.hid hvb
  have HV := Lib.hid hv
  clear hv hvo hvb
  have HUL := Lib.hid hul
  clear hul hus
  obtain ⟨c, hc⟩ : ∃ c, c = u.data.toList[n] := ⟨_, rfl⟩
  obtain ⟨y, hy⟩ : ∃ y, y = c ^^^ x := ⟨_, rfl⟩
  have HV2 : Hid (v = ⟨(u.data.toList.set n y).toArray⟩) := by show _ = _; rw [hy, hc]; exact HV.out
  have hxor : bits .xor .u8 (c.toNat : Int) (x.toNat : Int) = (y.toNat : Int) := by rw [hy]; exact xor8_is c x
  have TT : Hid (∀ W : World, ∃ cap w', u.size ≤ cap ∧ (convert 9 39 (.string u)).run Tryd.prog W = .ok (.slice (some ⟨W.heap.size, 0, none⟩) u.size cap) w' ∧ w'.cell? ⟨W.heap.size, n, none⟩ = some (.int .u8 (c.toNat : Int)) ∧ w'.frozen? ⟨W.heap.size, n, none⟩ = false ∧
      (convert 39 9 (.slice (some ⟨W.heap.size, 0, none⟩) u.size cap)).run Tryd.prog (w'.setCell ⟨W.heap.size, n, none⟩ (.int .u8 (y.toNat : Int))) = .ok (.string v) (w'.setCell ⟨W.heap.size, n, none⟩ (.int .u8 (y.toNat : Int))) ∧
      Below W.heap.size W (w'.setCell ⟨W.heap.size, n, none⟩ (.int .u8 (y.toNat : Int)))) := fun W => by
    rw [hc]; exact turned_text Tryd.prog 9 39 5 Tryd.underlying9 Tryd.underlying39 Tryd.underlying5 u v n hnl y HV2.out W
  clear hc hy hnl HV HV2 HUL
  by_cases htz : tn = 0
  · have h1x := hx1 htz
    have hxor1 : bits .xor .u8 (c.toNat : Int) 1 = (y.toNat : Int) := by rw [h1x]; exact hxor
    clear hx1 hx2 hxor h1x
    subst htz
    by_cases hneg : at_ < 0
    · have hmod := hq hneg
      clear hp hq
      go_enter Tryd.func8, Tryd.ntmps8
      go_wp2_with (first
        | (go_at_call 9; with_reducible refine (awake_any _ ht).mono ?_; rintro e w1 ⟨rfl, hw1⟩; have ht1 := ht.next hw1)
        | (go_at_call 10; with_reducible refine (short1 _).mono ?_; rintro e w2 ⟨rfl, rfl⟩)
        | (go_at_call 15; with_reducible refine (sealed_is s u _ HU z1 (by assumption)).mono ?_; rintro e w2 ⟨rfl, hw2⟩; have ht2 := Tab.next (by assumption) hw2)
        | (go_at_call 13; with_reducible refine (open_is u s true _ hb ho hu1 (by assumption)).mono ?_; rintro e w3 ⟨rfl, hw3⟩; have ht3 := Tab.next (by assumption) hw3; obtain ⟨cap, w4, hcap, hconv, hcell, hfree, hback, hb4⟩ := TT.out w3)
        | (go_at_call 13; with_reducible refine (open_is v ⟨#[]⟩ false _ HVB HVO hv1 (Tab.next (by assumption) hb4)).mono ?_; rintro e w5 ⟨rfl, hw5⟩))
      go_ret
      exact ⟨rfl, by repeat (first | assumption | (refine below_next ?_ (by assumption)))⟩
    · have hmod := hp (by omega)
      have hge : 0 ≤ at_ := by omega
      clear hp hq hneg
      go_enter Tryd.func8, Tryd.ntmps8
      go_wp2_with (first
        | (go_at_call 9; with_reducible refine (awake_any _ ht).mono ?_; rintro e w1 ⟨rfl, hw1⟩; have ht1 := ht.next hw1)
        | (go_at_call 10; with_reducible refine (short1 _).mono ?_; rintro e w2 ⟨rfl, rfl⟩)
        | (go_at_call 15; with_reducible refine (sealed_is s u _ HU z1 (by assumption)).mono ?_; rintro e w2 ⟨rfl, hw2⟩; have ht2 := Tab.next (by assumption) hw2)
        | (go_at_call 13; with_reducible refine (open_is u s true _ hb ho hu1 (by assumption)).mono ?_; rintro e w3 ⟨rfl, hw3⟩; have ht3 := Tab.next (by assumption) hw3; obtain ⟨cap, w4, hcap, hconv, hcell, hfree, hback, hb4⟩ := TT.out w3)
        | (go_at_call 13; with_reducible refine (open_is v ⟨#[]⟩ false _ HVB HVO hv1 (Tab.next (by assumption) hb4)).mono ?_; rintro e w5 ⟨rfl, hw5⟩))
      go_ret
      exact ⟨rfl, by repeat (first | assumption | (refine below_next ?_ (by assumption)))⟩
  · have h1x := hx2 htz
    have hxor1 : bits .xor .u8 (c.toNat : Int) tn = (y.toNat : Int) := by rw [h1x]; exact hxor
    clear hx1 hx2 hxor h1x
    have hne : (tn == 0) = false := by simpa using htz
    by_cases hneg : at_ < 0
    · have hmod := hq hneg
      clear hp hq
      go_enter Tryd.func8, Tryd.ntmps8
      go_wp2_with (first
        | (go_at_call 9; with_reducible refine (awake_any _ ht).mono ?_; rintro e w1 ⟨rfl, hw1⟩; have ht1 := ht.next hw1)
        | (go_at_call 10; with_reducible refine (short1 _).mono ?_; rintro e w2 ⟨rfl, rfl⟩)
        | (go_at_call 15; with_reducible refine (sealed_is s u _ HU z1 (by assumption)).mono ?_; rintro e w2 ⟨rfl, hw2⟩; have ht2 := Tab.next (by assumption) hw2)
        | (go_at_call 13; with_reducible refine (open_is u s true _ hb ho hu1 (by assumption)).mono ?_; rintro e w3 ⟨rfl, hw3⟩; have ht3 := Tab.next (by assumption) hw3; obtain ⟨cap, w4, hcap, hconv, hcell, hfree, hback, hb4⟩ := TT.out w3)
        | (go_at_call 13; with_reducible refine (open_is v ⟨#[]⟩ false _ HVB HVO hv1 (Tab.next (by assumption) hb4)).mono ?_; rintro e w5 ⟨rfl, hw5⟩))
      go_ret
      exact ⟨rfl, by repeat (first | assumption | (refine below_next ?_ (by assumption)))⟩
    · have hmod := hp (by omega)
      have hge : 0 ≤ at_ := by omega
      clear hp hq hneg
      go_enter Tryd.func8, Tryd.ntmps8
      go_wp2_with (first
        | (go_at_call 9; with_reducible refine (awake_any _ ht).mono ?_; rintro e w1 ⟨rfl, hw1⟩; have ht1 := ht.next hw1)
        | (go_at_call 10; with_reducible refine (short1 _).mono ?_; rintro e w2 ⟨rfl, rfl⟩)
        | (go_at_call 15; with_reducible refine (sealed_is s u _ HU z1 (by assumption)).mono ?_; rintro e w2 ⟨rfl, hw2⟩; have ht2 := Tab.next (by assumption) hw2)
        | (go_at_call 13; with_reducible refine (open_is u s true _ hb ho hu1 (by assumption)).mono ?_; rintro e w3 ⟨rfl, hw3⟩; have ht3 := Tab.next (by assumption) hw3; obtain ⟨cap, w4, hcap, hconv, hcell, hfree, hback, hb4⟩ := TT.out w3)
        | (go_at_call 13; with_reducible refine (open_is v ⟨#[]⟩ false _ HVB HVO hv1 (Tab.next (by assumption) hb4)).mono ?_; rintro e w5 ⟨rfl, hw5⟩))
      go_ret
      exact ⟨rfl, by repeat (first | assumption | (refine below_next ?_ (by assumption)))⟩
end Go.Proofs.YtibjnfllagaplaaDoor.sumAlone

/- OriginNil. -/
import Derived.Test.YthbajlfkgbfkgaaOgNil
set_option maxRecDepth 200000
set_option linter.unusedSimpArgs false
set_option linter.unusedVariables false
namespace Go.Proofs.Ythbajlfkgbfkgaa.Og
open Go.RowKit Go.Proofs.Ythbajlfkgbfkgaa.Vi Go.Proofs.Ythbajlfkgbfkgaa.Mk

theorem z_1 : addE zS eR1 = 15 := by kernel_rfl
theorem z_2 : addS zS eR1 = zS := addS_no (by rw [z_1]; decide)
theorem ns_one (w : World) (b : Nat) (x : Int) (hx : -9223372036854775808 ≤ x ∧ x ≤ 9223372036854775807) (hc : w.cell? ⟨b, 0, none⟩ = some (.int .i64 x)) : Ns w (.slice (some ⟨b, 0, none⟩) 1 1) [x] := one_ns w b x hc hx
namespace originNil
set_option maxHeartbeats 16000000 in
theorem walk (n : Int) (w : World) (hn : -9223372036854775808 ≤ n ∧ n ≤ 9223372036854775807) : Calls Try.prog 6 #[.int .i64 n] w fun e w' => e = .returned (.bool true) ∧ Below w.heap.size w w' := by
  have HS := Lib.hid (Lg.zero w)
  have ka := fun W => awake_is W
  have r1 := fun W => record_is 0 1 none 0 [] W
  simp only [List.length_nil] at r1
  have aN := fun W => (show Calls Try.prog 20 #[.pointer none, recV (lawR 0 1 []) (.slice none 0 0)] W (fun e w' => e = .returned (.int .i64 1) ∧ Below W.heap.size W w') from add_nil ⟨eR1, none, 0⟩ W)
  have aZ := fun (W : World) (h : Lg w W w.heap.size zS) => (show Calls Try.prog 20 #[.pointer (some ⟨w.heap.size, 0, none⟩), recV (lawR 0 1 []) (.slice none 0 0)] W (fun e w' => e = .returned (.int .i64 15) ∧ Lg w w' w.heap.size zS) from by
    have h1 := h.Add ⟨eR1, none, 0⟩ (ns_nil W) (lawR_fits _ _ _ (by omega) (by omega)) (show (1 : Nat) ≤ 100000 by omega) (show (0 : Nat) ≤ 1000000 by omega)
    dsimp only at h1
    rw [z_1, z_2] at h1
    exact h1)
  have fZ := fun (W : World) (h : Lg w W w.heap.size zS) => (show Calls Try.prog 14 #[.pointer (some ⟨w.heap.size, 0, none⟩), .slice none 0 0, .int .i64 5] W (fun e w' => ∃ a c, e = .returned (.tuple #[.slice a 0 c, .bool true]) ∧ Below W.heap.size W w') from by
    obtain ⟨F, h1, -⟩ := h
    refine (after_is h1 _ [] (ns_nil W) 5).mono ?_
    rintro e w' ⟨v, rfl, hr, hb⟩
    have e1 : covL [] zS.base = true := by kernel_rfl
    have e2 : aftR zS [] 5 = [] := by kernel_rfl
    rw [e2] at hr
    obtain ⟨a, c, rfl⟩ := hr.slice
    exact ⟨a, c, by rw [e1]; rfl, hb⟩)
  have rZ := fun (W : World) (h : Lg w W w.heap.size zS) => (show Calls Try.prog 30 #[.pointer (some ⟨w.heap.size, 0, none⟩)] W (fun e w' => e = .returned (.int .i64 0) ∧ Below W.heap.size W w') from by
    obtain ⟨F, h1, -⟩ := h
    exact room_is h1)
  have kG := fun W => nil_get W
  have kF := fun W => after_nil W (.slice none 0 0) [] (ns_nil W) 5
  have kK := fun W => know_nil W
  have kB := fun W => (show Calls Try.prog 27 #[.pointer none] W (fun e w' => ∃ a c, e = .returned (.slice a 0 c) ∧ Below W.heap.size W w') from (base_nil W).mono (by rintro e w' ⟨v, rfl, hn, hb, -⟩; obtain ⟨a, c, rfl⟩ := hn.slice; exact ⟨a, c, rfl, hb⟩))
  have kA := fun W => nil_all W
  have kC := fun W => clock_nil W
  have kL := fun W => len_nil W
  have kR := fun W => room_nil W
  have kT := fun W (h : Ns W (.slice (some ⟨W.heap.size - 1, 0, none⟩) 1 1) [n]) => nil_trim W _ [n] h
  have kT2 := fun (W : World) => nil_trim (W.alloc (.cells #[.int .i64 n] 3)) (.slice (some ⟨W.heap.size, 0, none⟩) 1 1) [n] (ns_one _ _ n hn (by simp [go_sem]))
  clear kT
  go_enter Try.func6, Try.ntmps6
  go_upto_region 6 with (first
    | (go_at_call 22; (with_reducible refine (kG _).mono ?_); rintro e w1 ⟨ga, gc, rfl, hb⟩; (first | replace HS := Lib.hid (HS.out.later hb) | replace HS := Lib.hid ((HS.out.later ((Below.refl _ _).alloc (Nat.le_refl _) _)).later hb)); clear hb)
    | (go_at_call 14; (with_reducible refine (kF _).mono ?_); rintro e w2 ⟨rfl, rfl⟩)
    | (go_at_call 14; (have hs3 := HS.out.later ((Below.refl _ _).alloc (Nat.le_refl _) (.cells #[.int .i64 0, .string ⟨#[]⟩, .int .i64 0, .int .i64 0, .int .i64 0, .int .i64 0, .int .i64 0, .int .i64 0, .slice ga 0 gc] 33))); (have kk := fZ _ hs3); clear hs3; (with_reducible refine kk.mono ?_); rintro e w3 ⟨fa, fc, rfl, hb⟩; clear kk; (first | replace HS := Lib.hid (HS.out.later hb) | replace HS := Lib.hid ((HS.out.later ((Below.refl _ _).alloc (Nat.le_refl _) _)).later hb)); clear hb))
  refine wp_region_lit ?_
  try simp only [List.append_eq, List.cons_append, List.nil_append]
  go_wp2_with (first
    | (go_at_call 8; (with_reducible refine (ka _).mono ?_); rintro e w1 ⟨rfl, hb⟩; (first | replace HS := Lib.hid (HS.out.later hb) | replace HS := Lib.hid ((HS.out.later ((Below.refl _ _).alloc (Nat.le_refl _) _)).later hb)); clear hb)
    | (go_at_call 33; (with_reducible refine (r1 _).mono ?_); rintro e w1 ⟨rfl, hb⟩; (first | replace HS := Lib.hid (HS.out.later hb) | replace HS := Lib.hid ((HS.out.later ((Below.refl _ _).alloc (Nat.le_refl _) _)).later hb)); clear hb)
    | (go_at_call 20; (with_reducible refine (aN _).mono ?_); rintro e w1 ⟨rfl, hb⟩; (first | replace HS := Lib.hid (HS.out.later hb) | replace HS := Lib.hid ((HS.out.later ((Below.refl _ _).alloc (Nat.le_refl _) _)).later hb)); clear hb)
    | (go_at_call 26; (with_reducible refine (kK _).mono ?_); rintro e w1 ⟨rfl, rfl⟩)
    | (go_at_call 27; (with_reducible refine (kB _).mono ?_); rintro e w1 ⟨ba, bc, rfl, hb⟩; (first | replace HS := Lib.hid (HS.out.later hb) | replace HS := Lib.hid ((HS.out.later ((Below.refl _ _).alloc (Nat.le_refl _) _)).later hb)); clear hb)
    | (go_at_call 24; (with_reducible refine (kA _).mono ?_); rintro e w1 ⟨rfl, rfl⟩)
    | (go_at_call 28; (with_reducible refine (kC _).mono ?_); rintro e w1 ⟨rfl, rfl⟩)
    | (go_at_call 29; (with_reducible refine (kL _).mono ?_); rintro e w1 ⟨rfl, rfl⟩)
    | (go_at_call 30; (with_reducible refine (kR _).mono ?_); rintro e w1 ⟨rfl, rfl⟩)
    | (go_at_call 12; (with_reducible refine (kT2 _).mono ?_); rintro e w1 ⟨rfl, rfl⟩; replace HS := Lib.hid (HS.out.later ((Below.refl _ _).alloc (Nat.le_refl _) (.cells #[.int .i64 n] 3))))
    | (go_at_call 20; (with_reducible refine (aZ _ HS.out).mono ?_); rintro e w1 ⟨rfl, hz⟩; replace HS := Lib.hid hz; clear hz)
    | (go_at_call 30; (with_reducible refine (rZ _ HS.out).mono ?_); rintro e w1 ⟨rfl, hb⟩; (first | replace HS := Lib.hid (HS.out.later hb) | replace HS := Lib.hid ((HS.out.later ((Below.refl _ _).alloc (Nat.le_refl _) _)).later hb)); clear hb))
  go_ret
  obtain ⟨F, -, hb⟩ := HS.out
  exact ⟨rfl, hb⟩
end originNil
end Go.Proofs.Ythbajlfkgbfkgaa.Og

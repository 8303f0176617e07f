/- The chapter's examples. -/
import Derived.Test.YthbajlfkgbfkgaaOgNew
import Derived.Test.YthbajlfkgbfkgaaMarkB
import Derived.Deep.CutRange
set_option maxRecDepth 20000
set_option linter.unusedSimpArgs false
set_option linter.unusedVariables false
namespace Go.Proofs.Ythbajlfkgbfkgaa.Og
open Go.RowKit Go.Proofs.Ythbajlfkgbfkgaa.Vi Go.Proofs.Ythbajlfkgbfkgaa.Mk

def eR1 : Rec := lawR 0 1 []
def eR2 : Rec := lawR 1 1 [1]
def eR3 : Rec := lawR 0 3 [2, 1]
def eS0 : OS := newS 9 []
def eS1 : OS := addS eS0 eR1
def eS2 : OS := addS eS1 eR2
theorem e_1 : addE eS0 eR1 = 0 := by kernel_rfl
theorem e_2 : addE eS1 eR2 = 0 := by kernel_rfl
theorem e_3 : addE eS2 eR3 = 17 := by kernel_rfl
theorem e_4 : covL [1] eS2.base = true := by kernel_rfl
theorem e_5 : aftR eS2 [1] 9 = [eR2] := by kernel_rfl
theorem e_6 : eS2.know = [1, 1] := by kernel_rfl
theorem e_7 : addS eS2 eR3 = eS2 := addS_no (by rw [e_3]; decide)
theorem LogAt.fresh {w w' : World} {B b : Nat} {S : OS} {F : Nat → Prop} (h : LogAt w B b S F) : True := trivial
/-- A log that the call has made: all that is its own lies above where the call began. -/
def Lg (w0 w : World) (b : Nat) (S : OS) : Prop := ∃ F, LogAt w w0.heap.size b S F ∧ Below w0.heap.size w0 w
theorem Lg.of {w0 w : World} {b : Nat} {S : OS} {F : Nat → Prop} (h : LogAt w w0.heap.size b S F) (k : Below w0.heap.size w0 w) : Lg w0 w b S := ⟨F, h, k⟩
theorem Lg.later {w0 w w' : World} {b : Nat} {S : OS} (h : Lg w0 w b S) (k : Below w.heap.size w w') : Lg w0 w' b S := by
  obtain ⟨F, h1, h2⟩ := h; exact ⟨F, h1.later k, bel_next h2 k⟩
theorem Lg.add {w0 w w' : World} {b : Nat} {S S' : OS} {F : Nat → Prop} (h : LogAt w w0.heap.size b S F) (k : Below w0.heap.size w0 w) (h1 : LogAt w' w0.heap.size b S' (grow F w w')) (h2 : FrF F w w') : Lg w0 w' b S' := ⟨_, h1, k.trans (h2.below (fun q hq => (h.fp q hq).1) k.size)⟩
theorem Lg.Add {w0 w : World} {b : Nat} {S : OS} (h : Lg w0 w b S) (x : Rd) (hN : Ns w x.dv x.r.d) (hf : x.r.fits) (hsz : x.r.s.size ≤ 100000) (hdl : x.r.d.length ≤ 1000000) :
    Calls Try.prog 20 #[.pointer (some ⟨b, 0, none⟩), recV x.r x.dv] w fun e w' => e = .returned (.int .i64 (addE S x.r)) ∧ Lg w0 w' b (addS S x.r) := by
  obtain ⟨F, h1, h2⟩ := h
  exact (add_is h1 x hN hf hsz hdl).mono fun e w' hd => ⟨hd.1, Lg.add h1 h2 hd.2.1 hd.2.2⟩
theorem lawR_fits (s q : Int) (d : List Int) (hs : 0 ≤ s ∧ s ≤ 100) (hq : 0 ≤ q ∧ q ≤ 100) : (lawR s q d).fits := ⟨by unfold lawR; dsimp only; omega, (show (1 : Nat) ≤ 1000000000 by omega), by unfold lawR; dsimp only; omega, by unfold lawR; dsimp only; omega, by unfold lawR; dsimp only; omega, by unfold lawR; dsimp only; omega⟩
set_option maxHeartbeats 8000000 in
theorem awake_is (w : World) : Calls Try.prog 8 #[] w fun e w' => e = .returned (.bool true) ∧ Below w.heap.size w w' := by
  have kn := new_is 9 (.slice none 0 0) [] w ((Nums.nil w none 0).mono (Nat.zero_le _) (Nat.le_refl _))
  have r1 := fun W => record_is 0 1 none 0 [] W
  have r2 := fun g W => record_is 1 1 (some ⟨g, 0, none⟩) 1 [1] W
  have r3 := fun g W => record_is 0 3 (some ⟨g, 0, none⟩) 2 [2, 1] W
  simp only [List.length_nil, List.length_cons, Nat.zero_add, Nat.reduceAdd] at r1 r2 r3
  have a1 := fun (W : World) (b : Nat) (h : Lg w W b eS0) => (show Calls Try.prog 20 #[.pointer (some ⟨b, 0, none⟩), recV (lawR 0 1 []) (.slice none 0 0)] W (fun e w' => e = .returned (.int .i64 0) ∧ Lg w w' b eS1) from by
    have h1 := h.Add ⟨eR1, none, 0⟩ ((Nums.nil W none 0).mono (Nat.zero_le _) (Nat.le_refl _)) (lawR_fits _ _ _ (by omega) (by omega)) (show (1 : Nat) ≤ 100000 by omega) (show (0 : Nat) ≤ 1000000 by omega)
    dsimp only at h1
    rw [e_1] at h1
    exact h1)
  have a2 := fun (W : World) (b g : Nat) (h : Lg w W b eS1) (hN : Ns W (.slice (some ⟨g, 0, none⟩) 1 1) [1]) => (show Calls Try.prog 20 #[.pointer (some ⟨b, 0, none⟩), recV (lawR 1 1 [1]) (.slice (some ⟨g, 0, none⟩) 1 1)] W (fun e w' => e = .returned (.int .i64 0) ∧ Lg w w' b eS2) from by
    have h1 := h.Add ⟨eR2, some ⟨g, 0, none⟩, 1⟩ hN (lawR_fits _ _ _ (by omega) (by omega)) (show (1 : Nat) ≤ 100000 by omega) (show (1 : Nat) ≤ 1000000 by omega)
    dsimp only at h1
    rw [e_2] at h1
    exact h1)
  have a3 := fun (W : World) (b g : Nat) (h : Lg w W b eS2) (hN : Ns W (.slice (some ⟨g, 0, none⟩) 2 2) [2, 1]) => (show Calls Try.prog 20 #[.pointer (some ⟨b, 0, none⟩), recV (lawR 0 3 [2, 1]) (.slice (some ⟨g, 0, none⟩) 2 2)] W (fun e w' => e = .returned (.int .i64 17) ∧ Lg w w' b eS2) from by
    have h1 := h.Add ⟨eR3, some ⟨g, 0, none⟩, 2⟩ hN (lawR_fits _ _ _ (by omega) (by omega)) (show (1 : Nat) ≤ 100000 by omega) (show (2 : Nat) ≤ 1000000 by omega)
    dsimp only at h1
    rw [e_3, e_7] at h1
    exact h1)
  have aA := fun (W : World) (b g : Nat) (h : Lg w W b eS2) (hN : Ns W (.slice (some ⟨g, 0, none⟩) 1 1) [1]) => (show Calls Try.prog 14 #[.pointer (some ⟨b, 0, none⟩), .slice (some ⟨g, 0, none⟩) 1 1, .int .i64 9] W (AftDone eS2 [1] 9 W) from by obtain ⟨F, h1, -⟩ := h; exact after_is h1 _ [1] hN 9)
  have aK := fun (W : World) (b : Nat) (h : Lg w W b eS2) => (show Calls Try.prog 26 #[.pointer (some ⟨b, 0, none⟩)] W (VNew eS2.know W) from by obtain ⟨F, h1, -⟩ := h; exact know_is h1)
  rw [e_6] at aK
  have A1 := Lib.hid a1
  have A2 := Lib.hid a2
  have A3 := Lib.hid a3
  have AA := Lib.hid aA
  have AK := Lib.hid aK
  have R1 := Lib.hid r1
  have R2 := Lib.hid r2
  have R3 := Lib.hid r3
  clear a1 a2 a3 aA aK r1 r2 r3
  go_enter Try.func8, Try.ntmps8
  go_upto_region 4 with (first
    | (go_at_call 10; (with_reducible refine kn.mono ?_); rintro e w1 ⟨b, rfl, -, hL, hb1⟩; (have HL := Lib.hid (Lg.of (hL w.heap.size (Nat.le_refl _)) hb1)); clear hL hb1))
  go_upto_region 5 with (first
    | (go_at_call 33; (with_reducible refine (R1.out _).mono ?_); rintro e w2 ⟨rfl, hb2⟩; (replace HL := Lib.hid (HL.out.later hb2)); clear hb2)
    | (go_at_call 20; (with_reducible refine (A1.out _ _ HL.out).mono ?_); rintro e w3 ⟨rfl, hL3⟩; (replace HL := Lib.hid hL3); clear hL3))
  go_upto_region 6 with (first
    | (go_at_call 33; (with_reducible refine (R2.out _ _).mono ?_); rintro e w4 ⟨rfl, hb4⟩
       have hal4 := (Below.refl w3.heap.size w3).alloc (Nat.le_refl _) (.cells #[.int .i64 1] 3)
       have hN4 := Ns.later (lit1 (w3.alloc (.cells #[.int .i64 1] 3)) w3.heap.size 1 (by simp [go_sem]) (by unfold Small; omega)) hb4
       have HN4 := Lib.hid hN4
       replace HL := Lib.hid ((HL.out.later hal4).later hb4)
       clear hb4 hal4 hN4)
    | (go_at_call 20; (with_reducible refine (A2.out _ _ _ HL.out HN4.out).mono ?_); rintro e w5 ⟨rfl, hL3⟩; (replace HL := Lib.hid hL3); clear hL3))
  go_upto_region 7 with (first
    | (go_at_call 33; (with_reducible refine (R3.out _ _).mono ?_); rintro e w6 ⟨rfl, hb4⟩
       have hal4 := (Below.refl w5.heap.size w5).alloc (Nat.le_refl _) (.cells #[.int .i64 2, .int .i64 1] 3)
       have hN4 := Ns.later (lit2 (w5.alloc (.cells #[.int .i64 2, .int .i64 1] 3)) w5.heap.size 2 1 (by simp [go_sem]) (by simp [go_sem]) (by unfold Small; omega) (by unfold Small; omega)) hb4
       have HN6 := Lib.hid hN4
       replace HL := Lib.hid ((HL.out.later hal4).later hb4)
       clear hb4 hal4 hN4)
    | (go_at_call 20; (with_reducible refine (A3.out _ _ _ HL.out HN6.out).mono ?_); rintro e w7 ⟨rfl, hL3⟩; (replace HL := Lib.hid hL3); clear hL3))
  have hal7 := (Below.refl w7.heap.size w7).alloc (Nat.le_refl _) (.cells #[.int .i64 1] 3)
  have HL7 := Lib.hid (HL.out.later hal7)
  have HN7 := Lib.hid (lit1 (w7.alloc (.cells #[.int .i64 1] 3)) w7.heap.size 1 (by simp [go_sem]) (by unfold Small; omega))
  clear hal7
  go_upto_region 8 with (first
    | (go_at_call 14; (with_reducible refine (AA.out _ _ _ HL7.out HN7.out).mono ?_); rintro e w8 ⟨v8, rfl, hr8, hb8⟩
       rw [e_5] at hr8
       rw [e_4]
       have HR8 := Lib.hid hr8
       obtain ⟨a8, c8, rfl⟩ := hr8.slice
       replace HL := Lib.hid (HL7.out.later hb8)
       clear hr8 hb8))
  go_upto_region 9 with (first
    | (go_at_call 26; (with_reducible refine (AK.out _ _ HL.out).mono ?_); rintro e w9 ⟨v9, rfl, hn9, hb9, hf9⟩
       have hal9 := (Below.refl w9.heap.size w9).alloc (Nat.le_refl _) (.cells #[.int .i64 1, .int .i64 1] 3)
       have HS := Lib.hid (rsameN v9 _ [1, 1] [1, 1] _ (Ns.later hn9 hal9) (lit2 (w9.alloc (.cells #[.int .i64 1, .int .i64 1] 3)) w9.heap.size 1 1 (by simp [go_sem]) (by simp [go_sem]) (by unfold Small; omega) (by unfold Small; omega)))
       have HR9 := Lib.hid ((HR8.out.later hb9).later hal9)
       replace HL := Lib.hid ((HL.out.later hb9).later hal9)
       clear hn9 hb9 hf9 hal9)
    | (go_at_call 25; (with_reducible refine HS.out.mono ?_); rintro e w10 ⟨rfl, hb10⟩
       have HR10 := Lib.hid (HR9.out.later hb10)
       replace HL := Lib.hid (HL.out.later hb10)
       rw [show sameL [1, 1] [1, 1] = true from rfl]
       clear hb10))
  obtain ⟨ys, hy1, hy2, -⟩ := HR10.out.has
  obtain ⟨y, rfl⟩ : ∃ y, ys = [y] := by
    match ys, hy2 with
    | [y], _ => exact ⟨y, rfl⟩
  have hyr : y.r = eR2 := by simpa using hy2
  obtain ⟨g, off, rfl, -, -, -, hcs⟩ := hy1.cell (by simp)
  have h9 := hcs 0 (by simp)
  obtain ⟨x0, x1, x2, x3, x4, x5, x6, x7, x8⟩ := h9
  simp only [List.getElem_cons_zero, hyr, Nat.zero_mul, Nat.add_zero] at x0 x1 x2 x3 x4 x5 x6 x7
  have x6 : w10.cell? ⟨g, off + 6, none⟩ = some (.int .i64 1) := x6
  clear x0 x1 x2 x3 x4 x5 x7 x8 hcs hy1 hy2 hyr
  go_wp2
  go_ret
  obtain ⟨F, -, hb⟩ := HL.out
  exact ⟨rfl, hb⟩
end Go.Proofs.Ythbajlfkgbfkgaa.Og

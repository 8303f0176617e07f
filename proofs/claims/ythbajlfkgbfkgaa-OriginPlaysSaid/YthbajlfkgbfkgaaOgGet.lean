/- Get. -/
import Derived.Test.YthbajlfkgbfkgaaOgAft
set_option maxRecDepth 20000
set_option linter.unusedSimpArgs false
set_option linter.unusedVariables false
namespace Go.Proofs.Ythbajlfkgbfkgaa.Og
open Go.RowKit Go.Proofs.Ythbajlfkgbfkgaa.Vi Go.Proofs.Ythbajlfkgbfkgaa.Mk

def GetDone (l : List Rec) (s q : Int) (w : World) (e : Ending) (w' : World) : Prop := ∃ x : Rd, e = .returned (.tuple #[recV x.r x.dv, .bool (getL l s q).isSome]) ∧ x.r = (getL l s q).getD Rec.zero ∧ Ns w' x.dv x.r.d ∧ Below w.heap.size w w' ∧ ∀ z, x.dv.ownBlock = some z → w.heap.size ≤ z ∧ z < w'.heap.size
theorem cell9_new (w : World) (z : Obj) (e : Nat) (he : e < w.heap.size) {r : Rec} {v : Value} (h : RecW w e r v) : RecW (w.alloc z) e r v := h.below ((Below.refl _ _).alloc (Nat.le_refl _) z)
structure GeJ (w wr : World) (zs : List Rd) (s q : Int) (k : Nat) : Prop where
  bel : Below w.heap.size w wr
  out : RecW wr w.heap.size Rec.zero (.slice none 0 0)
  no : ∀ j (hj : j < zs.length), j < k → (zs[j].r.st.s == s && zs[j].r.st.q == q) = false
set_option maxHeartbeats 8000000 in
theorem getR_is (p : Option Addr) (v : Value) (zs : List Rd) (B : Nat) (s q : Int) (w : World) (hall : ∀ W, Below w.heap.size w W → Calls Try.prog 38 #[.pointer p] W fun e w' => e = .returned v ∧ W = w') (hR : ORow w B v zs) (hD : ∀ x ∈ zs, Ns w x.dv x.r.d) (hok : ∀ x ∈ zs, x.r.ok = true) (hlen : zs.length ≤ 400) :
    Calls Try.prog 22 #[.pointer p, .int .i64 s, .int .i64 q] w (GetDone (zs.map Rd.r) s q w) := by
  have hal0 := (Below.refl w.heap.size w).alloc (Nat.le_refl _) (.cells #[.int .i64 0, .string ⟨#[]⟩, .int .i64 0, .int .i64 0, .int .i64 0, .int .i64 0, .int .i64 0, .int .i64 0, .slice none 0 0] 33)
  have ka := hall _ hal0
  have H0 := Lib.hid (show GeJ w (w.alloc (.cells #[.int .i64 0, .string ⟨#[]⟩, .int .i64 0, .int .i64 0, .int .i64 0, .int .i64 0, .int .i64 0, .int .i64 0, .slice none 0 0] 33)) zs s q 0 from ⟨hal0, RecW.new w Rec.zero (.slice none 0 0), fun j _ h => absurd h (Nat.not_lt_zero _)⟩)
  obtain ⟨a0, c0, rfl⟩ := hR.slice
  have HR := Lib.hid hR
  have HD := Lib.hid hD
  have HOK := Lib.hid hok
  obtain ⟨n, hn⟩ : ∃ n, zs.length = n := ⟨_, rfl⟩
  rw [hn] at ka hlen
  have HN := Lib.hid hn
  clear hR hD hok hall hal0 hn
  go_enter Try.func22, Try.ntmps22
  go_wp2_with (go_at_call 38; (with_reducible refine ka.mono ?_); rintro e w1 ⟨rfl, rfl⟩)
  go_loopw [13] (fun i wr => ∃ k : Nat, k ≤ n ∧ i = .int .i64 (k : Int) ∧ Hid (GeJ w wr zs s q k)) (fun i _ => n - (intOf i).toNat)
  case atStart => exact ⟨0, by omega, rfl, H0⟩
  case round =>
    obtain ⟨k, hk, rfl, HJ⟩ := hrel
    clear H0
    by_cases hlt : k < n
    · have hlt2 : (k : Int) < (n : Int) := by omega
      have hkz : k < zs.length := by rw [HN.out]; exact hlt
      obtain ⟨g, off, rfl, -, -, hgl, hcs⟩ := ORow.cell HR.out (by omega)
      have hr9 := R9.later (hcs k hkz) HJ.out.bel
      obtain ⟨z, hz⟩ : ∃ z, zs[k] = z := ⟨_, rfl⟩
      have hzn : Ns wr z.dv z.r.d := Ns.later (by rw [← hz]; exact HD.out _ (List.getElem_mem hkz)) HJ.out.bel
      have hokb := HOK.out z (by rw [← hz]; exact List.getElem_mem hkz)
      have hname := Rec.ok_name hokb
      have hdl := Rec.ok_deps hokb
      rw [hz] at hr9
      have HZ := Lib.hid hz
      obtain ⟨⟨zk, zss, zt, zv, ztier, ⟨zc, zst, zq⟩, zd⟩, za, zcc⟩ := z
      unfold Rd.dv at hzn
      dsimp only at *
      have hal := (Below.refl wr.heap.size wr).alloc (Nat.le_refl _) (.cells #[.int .i64 zk, .string zss, .int .i64 zt, .int .i64 zv, .int .i64 ztier, .int .i64 zc, .int .i64 zst, .int .i64 zq, .slice za zd.length zcc] 33)
      have HAL := Lib.hid hal
      obtain ⟨x0, x1, x2, x3, x4, x5, x6, x7, x8⟩ := hr9
      dsimp only at *
      have HNEXT := Lib.hid (fun (hne : (zst == s && zq == q) = false) => (show GeJ w (wr.alloc (.cells #[.int .i64 zk, .string zss, .int .i64 zt, .int .i64 zv, .int .i64 ztier, .int .i64 zc, .int .i64 zst, .int .i64 zq, .slice za zd.length zcc] 33)) zs s q (k + 1) from ⟨bel_next HJ.out.bel hal, HJ.out.out.below hal, fun j hj hjk => by
        by_cases ej : j = k
        · subst ej; rw [HZ.out]; exact hne
        · exact HJ.out.no j hj (by omega)⟩))
      by_cases h1 : zst = s
      · have e1 : (zst == s) = true := by simpa using h1
        by_cases h2 : zq = q
        · have e2 : (zq == q) = true := by simpa using h2
          have ko := own_lit zk zt zv ztier zc zst zq zss zd za zcc _ (Ns.later hzn hal) (by omega) (by omega)
          have HGET := Lib.hid (show getL (zs.map Rd.r) s q = some ⟨zk, zss, zt, zv, ztier, ⟨zc, zst, zq⟩, zd⟩ from by
            rw [getL_some (k := k) (by rw [List.length_map]; exact hkz) (fun j hj hjk => by rw [List.getElem_map]; exact HJ.out.no j (by simpa using hj) hjk) (by rw [List.getElem_map, HZ.out]; simp only [e1, e2]; rfl), List.getElem_map, HZ.out])
          have HO := Lib.hid (HJ.out.out.below hal)
          clear hcs hz hokb hname hdl hal hgl hzn h1 h2 HNEXT
          go_wp2_with (first
           | (go_at_call 42; (with_reducible refine ko.mono ?_); rintro e w2 ⟨a2, c2, rfl, hn2, hb2, hf2⟩
              have HN2 := Lib.hid hn2
              have HB2 := Lib.hid (bel_next (bel_next HJ.out.bel HAL.out) hb2)
              have HF2 := Lib.hid (own_past hf2 HAL.out.size)
              have HLT := Lib.hid (show w.heap.size < wr.heap.size from HJ.out.out.room)
              obtain ⟨⟨s0, s1, s2, s3, s4, s5, s6, s7, s8⟩, t0, t1, t2, t3, t4, t5, t6, t7, t8⟩ := (show RecW w2 w.heap.size (⟨0, ⟨#[]⟩, 0, 0, 0, ⟨0, 0, 0⟩, []⟩ : Rec) (.slice none 0 0) from HO.out.below hb2)
              dsimp only at s0 s1 s2 s3 s4 s5 s6 s7 s8
              clear hn2 hb2 hf2))
          refine bodyPost_ret (v := .tuple #[recV ⟨zk, zss, zt, zv, ztier, ⟨zc, zst, zq⟩, zd⟩ (.slice a2 zd.length c2), .bool true]) (by unfold recV; simp [results, Try.results22, go_sem, s0, s1, s2, s3, s4, s5, s6, s7, s8]; try rfl) rfl ⟨⟨⟨zk, zss, zt, zv, ztier, ⟨zc, zst, zq⟩, zd⟩, a2, c2⟩, ?_, ?_, ?_, ?_, ?_⟩
          · rw [HGET.out]; rfl
          · rw [HGET.out]; rfl
          · exact Ns.other HN2.out (by simp) (fun z hz _ => nine_off w2 w.heap.size z (fun e => by have := HF2.out z hz; have := HLT.out; omega) _ _ _ _ _ _ _ _ _)
          · exact nine_set HB2.out w.heap.size (Nat.le_refl _) _ _ _ _ _ _ _ _ _
          · intro z hz
            have := HF2.out z hz
            have := HLT.out
            exact ⟨by omega, by simp only [World.size_setCell]; omega⟩
        · have e2 : (zq == q) = false := by simpa using h2
          have HX := Lib.hid (HNEXT.out (by rw [e1, e2]; rfl))
          clear hcs hz hokb hname hdl hal hgl hzn h1 h2 HNEXT
          go_wp2
          go_roundw
          case rel => exact ⟨k + 1, by omega, by go_num, HX⟩
          case measure => simp [intOf]; omega
      · have e1 : (zst == s) = false := by simpa using h1
        have HX := Lib.hid (HNEXT.out (by rw [e1]; rfl))
        clear hcs hz hokb hname hdl hal hgl hzn h1 HNEXT
        go_wp2
        go_roundw
        case rel => exact ⟨k + 1, by omega, by go_num, HX⟩
        case measure => simp [intOf]; omega
    · obtain rfl : k = n := by omega
      have hlt2 : ¬ (k : Int) < (k : Int) := by omega
      have HGET := Lib.hid (show getL (zs.map Rd.r) s q = none from getL_none fun j hj => by
        rw [List.getElem_map]
        have hjz : j < zs.length := by simpa using hj
        exact HJ.out.no j hjz (by rw [← HN.out]; exact hjz))
      obtain ⟨⟨s0, s1, s2, s3, s4, s5, s6, s7, s8⟩, t0, t1, t2, t3, t4, t5, t6, t7, t8⟩ := (show RecW wr w.heap.size (⟨0, ⟨#[]⟩, 0, 0, 0, ⟨0, 0, 0⟩, []⟩ : Rec) (.slice none 0 0) from HJ.out.out)
      dsimp only at s0 s1 s2 s3 s4 s5 s6 s7 s8
      clear hlt
      go_wp2
      refine bodyPost_ret (v := .tuple #[recV Rec.zero (.slice none 0 0), .bool false]) (by unfold recV Rec.zero; simp [results, Try.results22, go_sem, s0, s1, s2, s3, s4, s5, s6, s7, s8]; try rfl) rfl ⟨⟨Rec.zero, none, 0⟩, ?_, ?_, ?_, ?_, ?_⟩
      · rw [HGET.out]; rfl
      · rw [HGET.out]; rfl
      · exact (Nums.nil _ none 0).mono (Nat.zero_le _) (Nat.le_refl _)
      · exact nine_set HJ.out.bel w.heap.size (Nat.le_refl _) _ _ _ _ _ _ _ _ _
      · intro z hz; cases hz
theorem get_is {w : World} {B b : Nat} {S : OS} {F : Nat → Prop} (h : LogAt w B b S F) (s q : Int) : Calls Try.prog 22 #[.pointer (some ⟨b, 0, none⟩), .int .i64 s, .int .i64 q] w (GetDone S.L s q w) := by
  obtain ⟨⟨kv, v, zs, hO, hf⟩, hF⟩ := h
  have := getR_is (some ⟨b, 0, none⟩) v zs B s q w (fun W hW => all_is (hO.later hW)) hO.row hO.deps (fun x hx => hO.good.ok x.r (by rw [← hO.rs]; exact List.mem_map_of_mem hx)) (by rw [hO.len]; exact hO.good.l400)
  rw [hO.rs] at this
  exact this
theorem get_nil (s q : Int) (w : World) : Calls Try.prog 22 #[.pointer none, .int .i64 s, .int .i64 q] w (GetDone [] s q w) :=
  getR_is none (.slice none 0 0) [] 0 s q w (fun W _ => all_nil W) (ORow.nil _ _) (fun x hx => by cases hx) (fun x hx => by cases hx) (by simp)
end Go.Proofs.Ythbajlfkgbfkgaa.Og

/- The document's Get. -/
import Derived.Test.YthbajlfkgbfkgaaOgDtr
set_option maxRecDepth 20000
set_option linter.unusedSimpArgs false
set_option linter.unusedVariables false
namespace Go.Proofs.Ythbajlfkgbfkgaa.Og
open Go.RowKit Go.Proofs.Ythbajlfkgbfkgaa.Vi Go.Proofs.Ythbajlfkgbfkgaa.Mk

theorem Ns.own_lt {w : World} {v : Value} {l : List Int} (h : Ns w v l) (hd : l ≠ []) : ∀ q, v.ownBlock = some q → q < w.heap.size := by
  obtain ⟨⟨a, c, e, h2⟩, _⟩ := h
  rcases h2 with h2 | ⟨b, off, e2, hb, _⟩
  · exact absurd h2 hd
  · intro q hq
    rw [e, e2] at hq
    injection hq with hq
    rw [← hq]; exact hb
def DGetDone (l : List Rec) (s q : Int) (w : World) (e : Ending) (w' : World) : Prop := ∃ x : Rd, e = .returned (.tuple #[recV x.r x.dv, .bool (getL l s q).isSome]) ∧ x.r = (getL l s q).getD Rec.zero ∧ Ns w' x.dv x.r.d ∧ Below w.heap.size w w'
set_option maxHeartbeats 8000000 in
theorem dgetO_is {w : World} {B b : Nat} {bv v : Value} {zs : List Rd} {S : OS} (h : DAt w B b bv v zs S) (hlen : zs.length ≤ 400) (s q : Int) : Calls Try.prog 23 #[.pointer (some ⟨b, 0, none⟩), .int .i64 s, .int .i64 q] w (DGetDone S.L s q w) := by
  have hal0 := (Below.refl w.heap.size w).alloc (Nat.le_refl _) (.cells #[.int .i64 0, .string ⟨#[]⟩, .int .i64 0, .int .i64 0, .int .i64 0, .int .i64 0, .int .i64 0, .int .i64 0, .slice none 0 0] 33)
  have H0 := Lib.hid (show GeJ w (w.alloc (.cells #[.int .i64 0, .string ⟨#[]⟩, .int .i64 0, .int .i64 0, .int .i64 0, .int .i64 0, .int .i64 0, .int .i64 0, .slice none 0 0] 33)) zs s q 0 from ⟨hal0, RecW.new w Rec.zero (.slice none 0 0), fun j _ h => absurd h (Nat.not_lt_zero _)⟩)
  have hL : S.L = zs.map Rd.r := h.rs.symm
  rw [hL]
  obtain ⟨a0, c0, rfl⟩ := h.row.slice
  have HR := Lib.hid h.row
  have HD := Lib.hid h.deps
  obtain ⟨n, hn⟩ : ∃ n, zs.length = n := ⟨_, rfl⟩
  have HC2 := Lib.hid (fun (W : World) (hW : Below w.heap.size w W) => (by have := (h.later hW).c2; rw [hn] at this; exact this : W.cell? ⟨b, 2, none⟩ = some (.slice a0 n c0)))
  rw [hn] at hlen
  have HN := Lib.hid hn
  clear h hL hal0 hn
  go_enter Try.func23, Try.ntmps23
  go_wp2
  go_loopw [8] (fun i wr => ∃ k : Nat, k ≤ n ∧ i = .int .i64 (k : Int) ∧ Hid (GeJ w wr zs s q k)) (fun i _ => n - (intOf i).toNat)
  case atStart => exact ⟨0, by omega, rfl, H0⟩
  case round =>
    obtain ⟨k, hk, rfl, HJ⟩ := hrel
    clear H0
    have c2 := HC2.out _ HJ.out.bel
    by_cases hlt : k < n
    · have hlt2 : (k : Int) < (n : Int) := by omega
      have hkz : k < zs.length := by rw [HN.out]; exact hlt
      obtain ⟨g, off, rfl, -, -, hgl, hcs⟩ := ORow.cell HR.out (by omega)
      have hr9 := R9.later (hcs k hkz) HJ.out.bel
      obtain ⟨z, hz⟩ : ∃ z, zs[k] = z := ⟨_, rfl⟩
      have hzw : Ns w z.dv z.r.d := by rw [← hz]; exact HD.out _ (List.getElem_mem hkz)
      rw [hz] at hr9
      have HZ := Lib.hid hz
      obtain ⟨⟨zk, zss, zt, zv, ztier, ⟨zc, zst, zq⟩, zd⟩, za, zcc⟩ := z
      unfold Rd.dv at hzw
      dsimp only at *
      have HZW := Lib.hid hzw
      obtain ⟨x0, x1, x2, x3, x4, x5, x6, x7, x8⟩ := hr9
      dsimp only at *
      have HNEXT := Lib.hid (fun (hne : (zst == s && zq == q) = false) => (show GeJ w wr zs s q (k + 1) from ⟨HJ.out.bel, HJ.out.out, fun j hj hjk => by
        by_cases ej : j = k
        · subst ej; rw [HZ.out]; exact hne
        · exact HJ.out.no j hj (by omega)⟩))
      by_cases h1 : zst = s
      · have e1 : (zst == s) = true := by simpa using h1
        by_cases h2 : zq = q
        · have e2 : (zq == q) = true := by simpa using h2
          have HGET := Lib.hid (show getL (zs.map Rd.r) s q = some ⟨zk, zss, zt, zv, ztier, ⟨zc, zst, zq⟩, zd⟩ from by
            rw [getL_some (k := k) (by rw [List.length_map]; exact hkz) (fun j hj hjk => by rw [List.getElem_map]; exact HJ.out.no j (by simpa using hj) hjk) (by rw [List.getElem_map, HZ.out]; simp only [e1, e2]; rfl), List.getElem_map, HZ.out])
          obtain ⟨⟨s0, s1, s2, s3, s4, s5, s6, s7, s8⟩, t0, t1, t2, t3, t4, t5, t6, t7, t8⟩ := (show RecW wr w.heap.size (⟨0, ⟨#[]⟩, 0, 0, 0, ⟨0, 0, 0⟩, []⟩ : Rec) (.slice none 0 0) from HJ.out.out)
          dsimp only at s0 s1 s2 s3 s4 s5 s6 s7 s8
          clear hcs hz hgl hzw h1 h2 HNEXT
          go_wp2
          refine bodyPost_ret (v := .tuple #[recV ⟨zk, zss, zt, zv, ztier, ⟨zc, zst, zq⟩, zd⟩ (.slice za zd.length zcc), .bool true]) (by unfold recV; simp [results, Try.results23, go_sem, s0, s1, s2, s3, s4, s5, s6, s7, s8]; try rfl) rfl ⟨⟨⟨zk, zss, zt, zv, ztier, ⟨zc, zst, zq⟩, zd⟩, za, zcc⟩, ?_, ?_, ?_, ?_⟩
          · rw [HGET.out]; rfl
          · rw [HGET.out]; rfl
          · have hb := nine_set HJ.out.bel w.heap.size (Nat.le_refl _) (.int .i64 zk) (.string zss) (.int .i64 zt) (.int .i64 zv) (.int .i64 ztier) (.int .i64 zc) (.int .i64 zst) (.int .i64 zq) (.slice za zd.length zcc)
            exact Ns.later HZW.out hb
          · exact nine_set HJ.out.bel w.heap.size (Nat.le_refl _) _ _ _ _ _ _ _ _ _
        · have e2 : (zq == q) = false := by simpa using h2
          have HX := Lib.hid (HNEXT.out (by rw [e1, e2]; rfl))
          clear hcs hz hgl hzw h1 h2 HNEXT
          go_wp2
          go_roundw
          case rel => exact ⟨k + 1, by omega, by go_num, HX⟩
          case measure => simp [intOf]; omega
      · have e1 : (zst == s) = false := by simpa using h1
        have HX := Lib.hid (HNEXT.out (by rw [e1]; rfl))
        clear hcs hz hgl hzw h1 HNEXT
        go_wp2
        go_roundw
        case rel => exact ⟨k + 1, by omega, by go_num, HX⟩
        case measure => simp [intOf]; omega
    · obtain rfl : k = n := by omega
      have hlt2 : ¬ (k : Int) < (k : Int) := by omega
      have HGET := Lib.hid (show getL (zs.map Rd.r) s q = none from getL_none fun j hj => by
        rw [List.getElem_map]
        have hjz : j < zs.length := by simpa using hj
        exact HJ.out.no j hjz (by rw [← HN.out]; exact hjz))
      obtain ⟨⟨s0, s1, s2, s3, s4, s5, s6, s7, s8⟩, t0, t1, t2, t3, t4, t5, t6, t7, t8⟩ := (show RecW wr w.heap.size (⟨0, ⟨#[]⟩, 0, 0, 0, ⟨0, 0, 0⟩, []⟩ : Rec) (.slice none 0 0) from HJ.out.out)
      dsimp only at s0 s1 s2 s3 s4 s5 s6 s7 s8
      clear hlt
      go_wp2
      refine bodyPost_ret (v := .tuple #[recV Rec.zero (.slice none 0 0), .bool false]) (by unfold recV Rec.zero; simp [results, Try.results23, go_sem, s0, s1, s2, s3, s4, s5, s6, s7, s8]; try rfl) rfl ⟨⟨Rec.zero, none, 0⟩, ?_, ?_, ?_, ?_⟩
      · rw [HGET.out]; rfl
      · rw [HGET.out]; rfl
      · exact (Nums.nil _ none 0).mono (Nat.zero_le _) (Nat.le_refl _)
      · exact nine_set HJ.out.bel w.heap.size (Nat.le_refl _) _ _ _ _ _ _ _ _ _
theorem dget_is {w : World} {B b : Nat} {S : OS} {M F : Nat → Prop} (h : LogD w B b S M F) (s q : Int) : Calls Try.prog 23 #[.pointer (some ⟨b, 0, none⟩), .int .i64 s, .int .i64 q] w (DGetDone S.L s q w) := by
  obtain ⟨bv, v, zs, hp⟩ := h.part
  exact dgetO_is hp.at_ (by rw [hp.at_.len]; exact hp.good.l400) s q
end Go.Proofs.Ythbajlfkgbfkgaa.Og

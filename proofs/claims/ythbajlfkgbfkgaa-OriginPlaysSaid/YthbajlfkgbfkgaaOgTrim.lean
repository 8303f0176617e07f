/- Trim. -/
import Derived.Test.YthbajlfkgbfkgaaOgAll
import Derived.WalkMore
set_option maxRecDepth 20000
set_option linter.unusedSimpArgs false
set_option linter.unusedVariables false
namespace Go.Proofs.Ythbajlfkgbfkgaa.Og
open Go.RowKit Go.Proofs.Ythbajlfkgbfkgaa.Vi Go.Proofs.Ythbajlfkgbfkgaa.Mk

theorem elemR : Try.prog.underlying 37 = some (.slice (Try.prog.elem 37)) := by kernel_rfl
/-- What drop leaves. -/
structure DropD (w : World) (B b : Nat) (kv v : Value) (zs : List Rd) (S : OS) (k : Nat) (w' : World) : Prop where
  has : ∃ v', w'.heap[b]? = some (.cells #[.int .i64 S.room, kv, v', .int .i64 S.clock] 58 (0, 0)) ∧ ORow w' B v' (zs.drop k) ∧ v'.ownBlock = v.ownBlock
  fr : FrF (fun q => q = b ∨ v.ownBlock = some q) w w'
set_option maxHeartbeats 2000000 in
theorem drop_is {w : World} {B b : Nat} {kv v : Value} {zs : List Rd} {S : OS} (h : OAt w B b kv v zs S) (k : Nat) (hk : k ≤ zs.length) (k0 : 0 < k) : Calls Try.prog 40 #[.pointer (some ⟨b, 0, none⟩), .int .i64 (k : Int)] w fun e w' => e = .returned (.tuple #[]) ∧ DropD w B b kv v zs S k w' := by
  obtain ⟨a, c, rfl⟩ := h.row.slice
  obtain ⟨g, off, rfl, -, hBg, hgl, -⟩ := h.row.cell (by omega)
  have hbg : g ≠ b := by
    obtain ⟨-, cur, e⟩ := h.row.typed (k := g) rfl
    rintro rfl
    rw [h.obj] at e
    injection e with e
    injection e with _ e _
    exact absurd e (by decide)
  obtain ⟨w2, hclr, hg2, hsz2, hnc, o', hsl, hR2⟩ := h.row.clear hk k0
  obtain ⟨n, hn⟩ : ∃ n, zs.length = n := ⟨_, rfl⟩
  have hob := (hg2.block b h.lt (fun e => hbg (Option.some.inj e).symm)).trans h.obj
  have c2 := h.c2
  rw [hn] at hk hnc hsl hR2 c2 hob ⊢
  have hc2 : w2.cell? ⟨b, 2, none⟩ = some (.slice (some ⟨g, off, none⟩) n c) := by rw [Joins.cell_of_block hob]; rfl
  have hf2 : w2.frozen? ⟨b, 2, none⟩ = false := Joins.unfrozen_of_block hob _
  have s1 : ∀ w, (Instr.slice 37 (.slice (some ⟨g, off, none⟩) n c) none (some (.int .i64 (k : Int))) none).run Try.prog w = .ok (.slice (some ⟨g, off, none⟩) k c) w := fun w => by
    rw [run_slice_h (P := Try.prog) w 37 _ n c elemR .i64 (k : Int) (by omega) (by omega), sizeR, Int.toNat_natCast]
    unfold sliced
    show Result.ok _ _ = _
    have hp : (⟨g, off, none⟩ : Addr).add (0 * 9) = ⟨g, off, none⟩ := by rw [add_offR]; simp
    split <;> simp [hp]
  have s2 : ∀ w, (Instr.slice 37 (.slice (some ⟨g, off, none⟩) n c) (some (.int .i64 (k : Int))) (some (.int .i64 (n : Int))) (some (.int .i64 (n : Int)))).run Try.prog w = .ok (.slice (some ⟨g, o', none⟩) (n - k) (n - k)) w := fun w => by
    rw [run_slice_lhm (P := Try.prog) w 37 _ n c elemR .i64 .i64 .i64 (k : Int) (n : Int) (n : Int) (by omega) (by omega) (by omega) (by omega), sizeR, Int.toNat_natCast, Int.toNat_natCast]
    show Result.ok _ _ = _
    rw [hsl]
  have s1' : ∀ w, (Instr.sliceAt 37 (.slice (some ⟨g, off, none⟩) n c) none (some (.int .i64 (k : Int))) none).run Try.prog w = .ok (.slice (some ⟨g, off, none⟩) k c) w := fun w => by rw [run_sliceAt_slice (P := Try.prog) w 37 _ _ _ _ elemR, s1 w]
  have s2' : ∀ w, (Instr.sliceAt 37 (.slice (some ⟨g, off, none⟩) n c) (some (.int .i64 (k : Int))) (some (.int .i64 (n : Int))) (some (.int .i64 (n : Int)))).run Try.prog w = .ok (.slice (some ⟨g, o', none⟩) (n - k) (n - k)) w := fun w => by rw [run_sliceAt_slice (P := Try.prog) w 37 _ _ _ _ elemR, s2 w]
  have HD := Lib.hid (show DropD w B b kv (.slice (some ⟨g, off, none⟩) n c) zs S k (w2.setCell ⟨b, 2, none⟩ (.slice (some ⟨g, o', none⟩) (n - k) (n - k))) from by
    have hb2 := Joins.block_setCell (i := 2) hob (.slice (some ⟨g, o', none⟩) (n - k) (n - k))
    refine ⟨⟨_, hb2, hR2.other fun q hq => ?_, rfl⟩, ?_⟩
    · injection hq with hq; dsimp only at hq; subst hq; exact World.heap_setCell_off w2 b 2 _ _ hbg
    · refine ⟨hg2.os, hg2.tape, hg2.output, by simp only [World.size_setCell]; exact hg2.size, fun q hq hne => ?_⟩
      have e1 : q ≠ b := fun e => hne (Or.inl e)
      have e2 : some q ≠ some g := fun e => hne (Or.inr (by rw [Option.some.inj e]; rfl))
      exact (World.heap_setCell_off w2 b 2 _ q e1).trans (hg2.block q hq e2))
  clear h hsl hR2 hob hn hg2 hsz2
  go_enter Try.func40, Try.ntmps40
  go_wp2
  go_end0
  exact ⟨rfl, HD.out⟩
theorem OAt.dropped {w w' : World} {B b : Nat} {kv v : Value} {zs : List Rd} {S : OS} (h : OAt w B b kv v zs S) (V : List Int) (hD : DropD w B b kv v zs S (trimN V S.L) w') : ∃ v', OAt w' B b kv v' (zs.drop (trimN V S.L)) (trimS S V) ∧ v'.ownBlock = v.ownBlock := by
  obtain ⟨⟨v', h1, h2, h3⟩, h4⟩ := hD
  have same : ∀ q, q < w.heap.size → q ≠ b → v.ownBlock ≠ some q → w'.heap[q]? = w.heap[q]? := fun q hq e1 e2 => h4.block q hq (fun e => e.elim e1 e2)
  refine ⟨v', ⟨h1, h.lo, h2, ?_, fun x hx => ?_, fun q hq => ?_, fun x hx q hq => ?_, ?_, h.good.trim V⟩, h3⟩
  · rw [trim_know]
    exact Ns.other h.kn h4.size fun q hq hl => same q hl (h.apk q hq).2.2.1 (h.apk q hq).2.2.2
  · have hx := List.mem_of_mem_drop hx
    by_cases hd : x.r.d = []
    · have hn := h.deps x hx
      obtain ⟨⟨a, c, e, _⟩, n2, n3, _⟩ := hn
      exact ⟨⟨a, c, e, Or.inl hd⟩, n2, n3, Nat.le_refl _⟩
    · refine Ns.other (h.deps x hx) h4.size fun q hq hl => ?_
      rcases h.apd x hx q hq with k | ⟨_, k1, k2⟩
      · refine same q hl (by have := h.lo; omega) fun e => ?_
        have := (h.row.lt e).1; omega
      · exact same q hl k1 k2
  · have := h.apk q hq
    exact ⟨this.1, by have := h4.size; omega, this.2.2.1, by rw [h3]; exact this.2.2.2⟩
  · have hx := List.mem_of_mem_drop hx
    rcases h.apd x hx q hq with k | ⟨k0, k1, k2⟩
    · exact Or.inl k
    · exact Or.inr ⟨by have := h4.size; omega, k1, by rw [h3]; exact k2⟩
  · rw [List.map_drop, h.rs]; rfl
theorem LogAt.mono {w : World} {B b : Nat} {S : OS} {F G : Nat → Prop} (h : LogAt w B b S F) (k : ∀ q, F q → G q) (hG : ∀ q, G q → B ≤ q ∧ q < w.heap.size) : LogAt w B b S G := by
  obtain ⟨⟨kv, v, zs, hO, hf⟩, hF⟩ := h
  exact ⟨⟨kv, v, zs, hO, fun q hq => k q (hf q hq)⟩, hG⟩
def TrimDone (w : World) (B b : Nat) (S : OS) (F : Nat → Prop) (V : List Int) (e : Ending) (w' : World) : Prop := e = .returned (.int .i64 ((trimN V S.L : Nat) : Int)) ∧ LogAt w' B b (trimS S V) F ∧ FrF F w w'
structure TrJ (w wr : World) (V : List Int) (zs : List Rd) (k : Nat) : Prop where
  bel : Below w.heap.size w wr
  no : ∀ j (hj : j < zs.length), j < k → beyB V zs[j].r = false
set_option maxHeartbeats 4000000 in
theorem trim_is {w : World} {B b : Nat} {S : OS} {F : Nat → Prop} (h : LogAt w B b S F) (vv : Value) (V : List Int) (hV : Ns w vv V) : Calls Try.prog 12 #[.pointer (some ⟨b, 0, none⟩), vv] w (TrimDone w B b S F V) := by
  obtain ⟨⟨kv, v, zs, hO, hf⟩, hF⟩ := h
  have ka := all_is hO
  obtain ⟨a0, c0, rfl⟩ := hO.row.slice
  have HO := Lib.hid hO
  have HF := Lib.hid hf
  have HFB := Lib.hid hF
  have HV := Lib.hid hV
  obtain ⟨av, cv, rfl⟩ := hV.slice
  have hlen := hO.len
  have hl400 := hO.good.l400
  obtain ⟨n, hn⟩ : ∃ n, zs.length = n := ⟨_, rfl⟩
  rw [hn] at ka hlen
  have HN := Lib.hid hn
  have HLN := Lib.hid hlen
  have h400 : n ≤ 400 := by omega
  have H0 := Lib.hid (show TrJ w w V zs 0 from ⟨Below.refl _ _, fun j _ h => absurd h (Nat.not_lt_zero _)⟩)
  clear hO hf hF hV hlen hl400 hn
  go_enter Try.func12, Try.ntmps12
  go_wp2_with (go_at_call 38; (with_reducible refine ka.mono ?_); rintro e w1 ⟨rfl, rfl⟩)
  go_step3
  go_wp2_with (go_at_call 38; (with_reducible refine ka.mono ?_); rintro e w1 ⟨rfl, rfl⟩)
  go_step3
  go_wp2_with (go_at_call 38; (with_reducible refine ka.mono ?_); rintro e w1 ⟨rfl, rfl⟩)
  go_loopw [5, 11] (fun o i wr => ∃ k : Nat, k ≤ n ∧ o = .int .i64 (k : Int) ∧ i = .int .i64 (k : Int) ∧ Hid (TrJ w wr V zs k)) (fun _ i _ => n - (intOf i).toNat)
  case atStart => exact ⟨0, by omega, rfl, rfl, H0⟩
  case round =>
    obtain ⟨k, hk, rfl, rfl, HJ⟩ := hrel
    clear H0
    by_cases hlt : k < n
    · have hlt2 : (k : Int) < (n : Int) := by omega
      have hkz : k < zs.length := by rw [HN.out]; exact hlt
      have hkL : k < S.L.length := by rw [← HLN.out]; exact hlt
      obtain ⟨g, off, rfl, -, -, hgl, hcs⟩ := ORow.cell HO.out.row (by omega)
      have hr9 := R9.later (hcs k hkz) HJ.out.bel
      obtain ⟨z, hz⟩ : ∃ z, zs[k] = z := ⟨_, rfl⟩
      have hzr : z.r = S.L[k] := by rw [← hz]; exact HO.out.get hkz hkL
      have hok := Rec.ok_parts (HO.out.good.ok z.r (by rw [hzr]; exact List.getElem_mem hkL))
      rw [hz] at hr9
      have HZ := Lib.hid hz
      have HZR := Lib.hid hzr
      obtain ⟨⟨zk, zss, zt, zv, ztier, ⟨zc, zst, zq⟩, zd⟩, za, zcc⟩ := z
      dsimp only at *
      have hal := (Below.refl wr.heap.size wr).alloc (Nat.le_refl _) (.cells #[.int .i64 zk, .string zss, .int .i64 zt, .int .i64 zv, .int .i64 ztier, .int .i64 zc, .int .i64 zst, .int .i64 zq, .slice za zd.length zcc] 33)
      have HAL := Lib.hid hal
      have kb := beyond_is (.slice av V.length cv) V ⟨zk, zss, zt, zv, ztier, ⟨zc, zst, zq⟩, zd⟩ (.slice za zd.length zcc) _ (Ns.later (Ns.later HV.out HJ.out.bel) hal) (by dsimp only; omega)
      unfold recV at kb
      dsimp only at kb
      obtain ⟨x0, x1, x2, x3, x4, x5, x6, x7, x8⟩ := hr9
      dsimp only at *
      by_cases hby : beyB V ⟨zk, zss, zt, zv, ztier, ⟨zc, zst, zq⟩, zd⟩ = true
      · rw [hby] at kb
        have HBY := Lib.hid hby
        have HK := Lib.hid (show trimN V S.L = k from trimN_eq (by omega) (fun j hj hjk => by
          have hjz : j < zs.length := by rw [HO.out.len]; exact hj
          rw [← HO.out.get hjz hj]
          exact HJ.out.no j hjz hjk) (Or.inr ⟨hkL, by rw [← HZR.out]; exact HBY.out⟩))
        clear hcs hz hzr hok hal hgl hby
        have HKD := Lib.hid (fun (W : World) (hW : Below w.heap.size w W) (h0 : 0 < k) => drop_is (HO.out.later hW) k (by rw [HN.out]; exact hk) h0)
        by_cases h0 : k = 0
        · have hkN : decide (0 < k) = false := decide_eq_false (by omega)
          have hkI : decide ((0 : Int) < (k : Int)) = false := decide_eq_false (by omega)
          have HK0 := Lib.hid h0
          clear h0
          go_wp2_with (go_at_call 39; (with_reducible refine kb.mono ?_); rintro e w2 ⟨rfl, hb2⟩; (have HB2 := Lib.hid (bel_next (bel_next HJ.out.bel HAL.out) hb2)); clear hb2)
          try rw [Exit.noGoto_ret]
          go_ret
          have e0 : trimN V S.L = 0 := HK.out.trans HK0.out
          refine ⟨by rw [HK.out]; rfl, ?_, FrF.of HB2.out⟩
          rw [trimS_none e0]
          exact ⟨⟨_, _, _, HO.out.later HB2.out, HF.out⟩, fun q hq => ⟨(HFB.out q hq).1, Nat.lt_of_lt_of_le (HFB.out q hq).2 (HB2.out).size⟩⟩
        · have hkN : decide (0 < k) = true := decide_eq_true (by omega)
          have hkI : decide ((0 : Int) < (k : Int)) = true := decide_eq_true (by omega)
          have HK0 := Lib.hid (show 0 < k by omega)
          clear h0
          go_wp2_with (first
            | (go_at_call 39; (with_reducible refine kb.mono ?_); rintro e w2 ⟨rfl, hb2⟩; (have HB2 := Lib.hid (bel_next (bel_next HJ.out.bel HAL.out) hb2)); clear hb2)
            | (go_at_call 40; (with_reducible refine (HKD.out _ HB2.out HK0.out).mono ?_); rintro e w5 ⟨rfl, hd⟩; (have HD := Lib.hid hd); clear hd))
          try rw [Exit.noGoto_ret]
          go_ret
          obtain ⟨v', hO', hv'⟩ := (HO.out.later HB2.out).dropped V (by rw [HK.out]; exact HD.out)
          have hsz := HD.out.fr.size
          have hfr : FrF F w w5 := FrF.next (FrF.of HB2.out) HD.out.fr fun q hq e => by
            rcases e with e | e
            · exact HF.out q (Or.inl e)
            · exact HF.out q (Or.inr (Or.inl e))
          refine ⟨by rw [HK.out]; rfl, ⟨⟨_, _, _, hO', fun q hq => ?_⟩, fun q hq => ⟨(HFB.out q hq).1, Nat.lt_of_lt_of_le (HFB.out q hq).2 hfr.size⟩⟩, hfr⟩
          rcases hq with e | e | e | ⟨x, hx, e, hBq⟩
          · exact HF.out q (Or.inl e)
          · exact HF.out q (Or.inr (Or.inl (by rw [← hv']; exact e)))
          · exact HF.out q (Or.inr (Or.inr (Or.inl e)))
          · exact HF.out q (Or.inr (Or.inr (Or.inr ⟨x, List.mem_of_mem_drop hx, e, hBq⟩)))
      · have hby : beyB V ⟨zk, zss, zt, zv, ztier, ⟨zc, zst, zq⟩, zd⟩ = false := by simpa using hby
        rw [hby] at kb
        have HBY := Lib.hid hby
        clear hcs hz hzr hok hal hgl hby
        go_wp2_with (go_at_call 39; (with_reducible refine kb.mono ?_); rintro e w2 ⟨rfl, hb2⟩; (have HB2 := Lib.hid (bel_next (bel_next HJ.out.bel HAL.out) hb2)); clear hb2)
        go_roundw
        case rel =>
          refine ⟨k + 1, by omega, by go_num, by go_num, Lib.hid ⟨HB2.out, fun j hj hjk => ?_⟩⟩
          by_cases ej : j = k
          · subst ej; rw [HZ.out]; exact HBY.out
          · exact HJ.out.no j hj (by omega)
        case measure => simp [intOf]; omega
    · obtain rfl : k = n := by omega
      have hlt2 : ¬ (k : Int) < (k : Int) := by omega
      have HK := Lib.hid (show trimN V S.L = k from trimN_eq (by rw [HLN.out]; exact Nat.le_refl _) (fun j hj hjk => by
        have hjz : j < zs.length := by rw [HO.out.len]; exact hj
        rw [← HO.out.get hjz hj]
        exact HJ.out.no j hjz hjk) (Or.inl HLN.out))
      clear hlt
      have HKD := Lib.hid (fun (W : World) (hW : Below w.heap.size w W) (h0 : 0 < k) => drop_is (HO.out.later hW) k (by rw [HN.out]; exact hk) h0)
      by_cases h0 : k = 0
      · have hkN : decide (0 < k) = false := decide_eq_false (by omega)
        have hkI : decide ((0 : Int) < (k : Int)) = false := decide_eq_false (by omega)
        have HK0 := Lib.hid h0
        clear h0
        go_wp2
        try rw [Exit.noGoto_ret]
        go_ret
        have e0 : trimN V S.L = 0 := HK.out.trans HK0.out
        refine ⟨by rw [HK.out]; rfl, ?_, FrF.of HJ.out.bel⟩
        rw [trimS_none e0]
        exact ⟨⟨_, _, _, HO.out.later HJ.out.bel, HF.out⟩, fun q hq => ⟨(HFB.out q hq).1, Nat.lt_of_lt_of_le (HFB.out q hq).2 (HJ.out.bel).size⟩⟩
      · have hkN : decide (0 < k) = true := decide_eq_true (by omega)
        have hkI : decide ((0 : Int) < (k : Int)) = true := decide_eq_true (by omega)
        have HK0 := Lib.hid (show 0 < k by omega)
        clear h0
        go_wp2_with (first
          | fail
          | (go_at_call 40; (with_reducible refine (HKD.out _ HJ.out.bel HK0.out).mono ?_); rintro e w5 ⟨rfl, hd⟩; (have HD := Lib.hid hd); clear hd))
        try rw [Exit.noGoto_ret]
        go_ret
        obtain ⟨v', hO', hv'⟩ := (HO.out.later HJ.out.bel).dropped V (by rw [HK.out]; exact HD.out)
        have hsz := HD.out.fr.size
        have hfr : FrF F w w5 := FrF.next (FrF.of HJ.out.bel) HD.out.fr fun q hq e => by
          rcases e with e | e
          · exact HF.out q (Or.inl e)
          · exact HF.out q (Or.inr (Or.inl e))
        refine ⟨by rw [HK.out]; rfl, ⟨⟨_, _, _, hO', fun q hq => ?_⟩, fun q hq => ⟨(HFB.out q hq).1, Nat.lt_of_lt_of_le (HFB.out q hq).2 hfr.size⟩⟩, hfr⟩
        rcases hq with e | e | e | ⟨x, hx, e, hBq⟩
        · exact HF.out q (Or.inl e)
        · exact HF.out q (Or.inr (Or.inl (by rw [← hv']; exact e)))
        · exact HF.out q (Or.inr (Or.inr (Or.inl e)))
        · exact HF.out q (Or.inr (Or.inr (Or.inr ⟨x, List.mem_of_mem_drop hx, e, hBq⟩)))
end Go.Proofs.Ythbajlfkgbfkgaa.Og

/- The document's Trim. -/
import Derived.Test.YthbajlfkgbfkgaaOgDat
set_option maxRecDepth 20000
set_option linter.unusedSimpArgs false
set_option linter.unusedVariables false
namespace Go.Proofs.Ythbajlfkgbfkgaa.Og
open Go.RowKit Go.Proofs.Ythbajlfkgbfkgaa.Vi Go.Proofs.Ythbajlfkgbfkgaa.Mk

theorem DAt.cutv {w : World} {B b n c0 : Nat} {a0 : Option Addr} {bv : Value} {zs : List Rd} {S : OS} (h : DAt w B b bv (.slice a0 zs.length c0) zs S) (hn : zs.length = n) {k : Nat} (hk : k ≤ n) (h4 : n ≤ 400) :
    ∃ v', (∀ w, (Instr.slice 37 (.slice a0 n c0) (some (.int .i64 (k : Int))) none none).run Try.prog w = .ok v' w) ∧ (∀ w, (Instr.sliceAt 37 (.slice a0 n c0) (some (.int .i64 (k : Int))) none none).run Try.prog w = .ok v' w) ∧ ORow w B v' (zs.drop k) ∧ ∀ q, v'.ownBlock = some q → (Value.slice a0 zs.length c0).ownBlock = some q := by
  have hs : ∀ w, (Instr.slice 37 (.slice a0 n c0) (some (.int .i64 (k : Int))) none none).run Try.prog w = .ok (sliced a0 k n c0 9) w := fun w => by
    rw [run_slice_l (P := Try.prog) w 37 _ n c0 elemR .i64 (k : Int) (by omega) (by omega), sizeR, Int.toNat_natCast]
    rfl
  have hs2 : ∀ w, (Instr.sliceAt 37 (.slice a0 n c0) (some (.int .i64 (k : Int))) none none).run Try.prog w = .ok (sliced a0 k n c0 9) w := fun w => by rw [run_sliceAt_slice (P := Try.prog) w 37 _ _ _ _ elemR, hs w]
  refine ⟨_, hs, hs2, ?_⟩
  rcases h.row with ⟨e, e2⟩ | ⟨g, off, cap, cur, e, hB, hh, hl, -⟩
  · injection e with e1 e3 e4
    subst e1 e4 e2
    subst hn
    obtain ⟨h1, h2⟩ := ORow.cut_nil (w := w) (B := B) (zs := []) (ORow.nil w B) (k := k) (m := 0) (by simpa using hk) rfl
    simp only [List.length_nil] at hk ⊢
    rw [h1]
    exact ⟨h2, fun q hq => hq⟩
  · injection e with e1 _ e4
    subst e1 e4
    have hr := h.row
    rw [hn] at hr
    obtain ⟨o', h1, h2⟩ := hr.cut (k := k) (m := c0) hk (by omega) (Nat.le_refl _)
    rw [h1]
    exact ⟨h2, fun q hq => hq⟩
/-- Within the loop. -/
structure DtJ (w wr : World) (B b : Nat) (bv0 v : Value) (zs : List Rd) (S : OS) (V : List Int) (k : Nat) (bv' : Value) (K : List Int) : Prop where
  at_ : DAt wr B b bv' v zs { S with base := K }
  own : ∀ q, bv'.ownBlock = some q → bv0.ownBlock = some q ∨ (w.heap.size ≤ q ∧ q < wr.heap.size)
  fr : FrF (fun q => q = b) w wr
  no : ∀ j (hj : j < zs.length), j < k → beyB V zs[j].r = false
  lt : b < w.heap.size
section
variable {w wr W : World} {B b k : Nat} {bv0 v bv' : Value} {zs : List Rd} {S : OS} {V K : List Int}
theorem DtJ.later (h : DtJ w wr B b bv0 v zs S V k bv' K) (hb : Below wr.heap.size wr W) : DtJ w W B b bv0 v zs S V k bv' K :=
  ⟨h.at_.later hb, fun q hq => (h.own q hq).imp id fun e => ⟨e.1, Nat.lt_of_lt_of_le e.2 hb.size⟩, FrF.next h.fr (FrF.of hb) (fun q _ e => e), h.no, h.lt⟩
theorem DtJ.more (h : DtJ w wr B b bv0 v zs S V k bv' K) {v9 : Value} {K' : List Int} (hn : Ns wr v9 K') (hq : ∀ q, v9.ownBlock = some q → w.heap.size ≤ q ∧ q < wr.heap.size) {k' : Nat} (hno : Hid (∀ (hno : ∀ j (hj : j < zs.length), j < k → beyB V zs[j].r = false), ∀ j (hj : j < zs.length), j < k' → beyB V zs[j].r = false)) (hvw : ∀ q, v.ownBlock = some q → q < w.heap.size) :
    DtJ w (wr.setCell ⟨b, 1, none⟩ v9) B b bv0 v zs S V k' v9 K' := by
  have hlo := h.at_.lo
  have hlt := h.lt
  refine ⟨h.at_.set1 v9 hn fun q k => ?_, fun q k => Or.inr (by rw [World.size_setCell]; exact hq q k), ?_, hno.out h.no, h.lt⟩
  · have h1 := hq q k
    exact ⟨by omega, h1.2, by omega, fun e => by have := hvw q e; omega⟩
  · exact ⟨h.fr.os, h.fr.tape, h.fr.output, by rw [World.size_setCell]; exact h.fr.size, fun q hq hne => (World.heap_setCell_off wr b 1 v9 q hne).trans (h.fr.block q hq hne)⟩
/-- The log's parts, with its blocks. -/
structure DPart (w : World) (B b : Nat) (bv v : Value) (zs : List Rd) (S : OS) (M F : Nat → Prop) : Prop where
  at_ : DAt w B b bv v zs S
  m1 : ∀ q, (q = b ∨ v.ownBlock = some q) → M q
  k1 : ∀ q, bv.ownBlock = some q → F q ∧ ¬ M q
  d1 : ∀ x ∈ zs, x.r.d ≠ [] → ∀ q, x.dv.ownBlock = some q → B ≤ q → F q ∧ ¬ M q
  mf : ∀ q, M q → F q
  fp : ∀ q, F q → B ≤ q ∧ q < w.heap.size
  good : Good S
theorem LogD.part {M F : Nat → Prop} (h : LogD w B b S M F) : ∃ bv v zs, DPart w B b bv v zs S M F := by
  obtain ⟨⟨bv, v, zs, hO, h1, h2, h3⟩, mf, fp, good⟩ := h
  exact ⟨bv, v, zs, hO, h1, h2, h3, mf, fp, good⟩
def DTrimDone (w : World) (B b : Nat) (S : OS) (M F : Nat → Prop) (V : List Int) (e : Ending) (w' : World) : Prop := e = .returned (.int .i64 ((trimN V S.L : Nat) : Int)) ∧ LogD w' B b (trimS S V) M (grow F w w') ∧ FrF M w w'
theorem DtJ.fin {M F : Nat → Prop} (h : DtJ w W B b bv0 v zs S V k bv' K) (hp : DPart w B b bv0 v zs S M F) (hk : K = knowL S.base (S.L.take k) ∧ trimN V S.L = k) (vc : Value) (hcut : ORow W B vc (zs.drop k)) (hcq : ∀ q, vc.ownBlock = some q → v.ownBlock = some q) :
    LogD (W.setCell ⟨b, 2, none⟩ vc) B b (trimS S V) M (grow F w (W.setCell ⟨b, 2, none⟩ vc)) ∧ FrF M w (W.setCell ⟨b, 2, none⟩ vc) := by
  obtain ⟨rfl, rfl⟩ := hk
  have hsz : (W.setCell ⟨b, 2, none⟩ vc).heap.size = W.heap.size := by simp
  have hfs := h.fr.size
  refine ⟨⟨⟨bv', vc, _, h.at_.set2 vc _ hcut hcq, fun q hq => ?_, fun q hq => ?_, fun x hx hd q hq hB => ?_⟩, fun q hq => Or.inl (hp.mf q hq), fun q hq => ?_, hp.good.trim V⟩, ?_⟩
  · rcases hq with hq | hq
    · exact hp.m1 q (Or.inl hq)
    · exact hp.m1 q (Or.inr (hcq q hq))
  · rcases h.own q hq with e | e
    · exact ⟨Or.inl (hp.k1 q e).1, (hp.k1 q e).2⟩
    · exact ⟨Or.inr ⟨e.1, by rw [hsz]; exact e.2⟩, fun hm => by have := (hp.fp q (hp.mf q hm)).2; omega⟩
  · have := hp.d1 x (List.mem_of_mem_drop hx) hd q hq hB
    exact ⟨Or.inl this.1, this.2⟩
  · rcases hq with hq | hq
    · have := hp.fp q hq; exact ⟨this.1, by rw [hsz]; omega⟩
    · have h1 := hp.at_.lo
      have h2 := h.lt
      exact ⟨by omega, hq.2⟩
  · exact ⟨h.fr.os, h.fr.tape, h.fr.output, by rw [hsz]; exact hfs, fun q hq hne => (World.heap_setCell_off W b 2 vc q (fun e => hne (hp.m1 q (Or.inl e)))).trans (h.fr.block q hq (fun e => hne (hp.m1 q (Or.inl e))))⟩
end
theorem Ns.frame {w w' : World} {v : Value} {l : List Int} {G : Nat → Prop} (h : Ns w v l) (k : FrF G w w') (hq : l ≠ [] → ∀ q, v.ownBlock = some q → ¬ G q) : Ns w' v l := by
  by_cases hd : l = []
  · obtain ⟨⟨a, c, e, _⟩, n2, n3, _⟩ := h
    exact ⟨⟨a, c, e, Or.inl hd⟩, n2, n3, Nat.le_refl _⟩
  · exact Ns.other h k.size fun q hqq hl => k.block q hl (hq hd q hqq)
set_option maxHeartbeats 8000000 in
theorem dtrim_is {w : World} {B b : Nat} {S : OS} {M F : Nat → Prop} (h : LogD w B b S M F) (vv : Value) (V : List Int) (hV : Ns w vv V) (hVq : V ≠ [] → ∀ q, vv.ownBlock = some q → ¬ M q) : Calls Try.prog 13 #[.pointer (some ⟨b, 0, none⟩), vv] w (DTrimDone w B b S M F V) := by
  obtain ⟨bv, v, zs, hp⟩ := h.part
  have hO := hp.at_
  obtain ⟨a0, c0, rfl⟩ := hO.row.slice
  obtain ⟨av, cv, rfl⟩ := hV.slice
  have HLAT := Lib.hid hp
  have HV := Lib.hid hV
  have HVQ := Lib.hid (fun (e : V ≠ []) q hq (k : q = b) => hVq e q hq (hp.m1 q (Or.inl k)))
  obtain ⟨n, hn⟩ : ∃ n, zs.length = n := ⟨_, rfl⟩
  have hlen := hO.len
  have hl400 := hp.good.l400
  rw [hn] at hlen
  have h400 : n ≤ 400 := by omega
  have HN := Lib.hid hn
  have HLN := Lib.hid hlen
  have H0 := Lib.hid (show DtJ w w B b bv (.slice a0 zs.length c0) zs S V 0 bv (knowL S.base (S.L.take 0)) from ⟨hO, fun q hq => Or.inl hq, FrF.of (Below.refl _ _), fun j _ h => absurd h (Nat.not_lt_zero _), hO.lt⟩)
  have HVW := Lib.hid (fun q hq => (hO.vb q hq).2.1)
  clear h hV hVq hp hO hn hlen hl400
  go_enter Try.func13, Try.ntmps13
  go_wp2
  go_loopw [5] (fun i wr => ∃ (k : Nat) (bv' : Value), k ≤ n ∧ i = .int .i64 (k : Int) ∧ Hid (DtJ w wr B b bv (.slice a0 zs.length c0) zs S V k bv' (knowL S.base (S.L.take k)))) (fun i _ => n - (intOf i).toNat)
  case atStart => exact ⟨0, bv, by omega, rfl, H0⟩
  case round =>
    obtain ⟨k, bv', hk, rfl, HJ⟩ := hrel
    clear H0
    rename_i wr
    obtain ⟨ab, cb, rfl⟩ := HJ.out.at_.kn.slice
    have HC2 := Lib.hid (fun (W : World) (hW : Below wr.heap.size wr W) => (by have := (HJ.out.at_.later hW).c2; rw [HN.out] at this; exact this : W.cell? ⟨b, 2, none⟩ = some (.slice a0 n c0)))
    obtain ⟨K, hK⟩ : ∃ K, knowL S.base (S.L.take k) = K := ⟨_, rfl⟩
    rw [hK] at HJ
    dsimp only at *
    by_cases hlt : k < n
    · have hlt2 : (k : Int) < (n : Int) := by omega
      have hkz : k < zs.length := by rw [HN.out]; exact hlt
      have hkL : k < S.L.length := by rw [← HLN.out]; exact hlt
      obtain ⟨g, off, rfl, -, -, hgl, hcs⟩ := ORow.cell HJ.out.at_.row (by omega)
      have hr9 := hcs k hkz
      obtain ⟨z, hz⟩ : ∃ z, zs[k] = z := ⟨_, rfl⟩
      have hzr : z.r = S.L[k] := by rw [← hz]; exact HLAT.out.at_.get hkz hkL
      have hok := Rec.ok_parts (HLAT.out.good.ok z.r (by rw [hzr]; exact List.getElem_mem hkL))
      have hst := know_step S.base S.L k hkL
      rw [← hzr, hK] at hst
      rw [hz] at hr9
      obtain ⟨⟨zk, zss, zt, zv, ztier, ⟨zc, zst, zq⟩, zd⟩, za, zcc⟩ := z
      have HX6 := Lib.hid (fun (W : World) (hW : Below wr.heap.size wr W) => (R9.later hr9 hW).c6)
      have HX7 := Lib.hid (fun (W : World) (hW : Below wr.heap.size wr W) => (R9.later hr9 hW).c7)
      dsimp only at HX6 HX7 hst hok hzr
      have HCELL := Lib.hid (fun (X : World) (hX : ORow X B (.slice (some ⟨g, off, none⟩) zs.length c0) zs) => (by obtain ⟨g', off', e, -, -, -, hc⟩ := ORow.cell hX (by omega); injection e with e; injection e with e1 e2 _; subst e1 e2; have := hc k hkz; rw [hz] at this; exact ⟨this.c6, this.c7⟩ : X.cell? ⟨g, off + k * 9 + 6, none⟩ = some (.int .i64 zst) ∧ X.cell? ⟨g, off + k * 9 + 7, none⟩ = some (.int .i64 zq)))
      have hzq : -9223372036854775808 ≤ zq ∧ zq ≤ 9223372036854775807 := by omega
      obtain ⟨y, hy⟩ : ∃ y, atL V zst = y := ⟨_, rfl⟩
      have HKA := Lib.hid (fun (W : World) (hW : Below wr.heap.size wr W) => (by have := rat_is (.slice av V.length cv) V zst W (Ns.later (Ns.frame HV.out HJ.out.fr HVQ.out) hW); rw [hy] at this; exact this : Calls Try.prog 19 #[.slice av V.length cv, .int .i64 zst] W fun e w' => e = .returned (.int .i64 y) ∧ Below W.heap.size W w'))
      have hby : beyB V ⟨zk, zss, zt, zv, ztier, ⟨zc, zst, zq⟩, zd⟩ = decide (y < zq) := by unfold beyB; dsimp only; rw [hy]
      by_cases hle : zq ≤ y
      · have HNX := Lib.hid (fun (hno : ∀ j (hj : j < zs.length), j < k → beyB V zs[j].r = false) => (fun j hj hjk => by
          by_cases ej : j = k
          · subst ej; rw [hz]; dsimp only; rw [hby]; exact decide_eq_false (by omega)
          · exact hno j hj (by omega) : ∀ j (hj : j < zs.length), j < k + 1 → beyB V zs[j].r = false))
        have HST := Lib.hid hst
        clear hst hcs hz hzr hok hgl hby hy hr9 hkz hkL
        go_wp2_with fail
        refine wp_region_held_drew (S := (fun X : World => Below wr.heap.size wr X)) (by kernel_rfl) (Below.refl _ _).drew (fun hHeld => ?_)
        refine wpAnyH_take (i := 0) (oi := ?o1o) (v := ?o1v) ?o1h (by kernel_rfl) (by kernel_rfl) (by kernel_rfl) ?o1q ?o1y hHeld ?o1r
        case o1h => (simp only [List.getElem?_toArray, List.getElem?_cons_zero]; rfl)
        case o1q => exact fun _ _ _ h => h
        case o1y => (refine Or.inl ⟨by first | kernel_rfl | rfl, ?_⟩; intro w hSw; (try dsimp only at hSw); have d2 := HC2.out _ hSw; have d6 := HX6.out _ hSw; have d7 := HX7.out _ hSw; go_simp <;> (try with_reducible rfl))
        try simp only [Act.put, List.setIfInBounds_toArray, List.set_cons_zero, List.set_cons_succ]
        refine wpAnyH_take (i := 1) (oi := ?o2o) (v := ?o2v) ?o2h (by kernel_rfl) (by kernel_rfl) (by kernel_rfl) ?o2q ?o2y hHeld ?o2r
        case o2h => (simp only [List.getElem?_toArray, List.getElem?_cons_succ, List.getElem?_cons_zero]; rfl)
        case o2q => exact fun _ _ _ h => h
        case o2y => (refine Or.inl ⟨by first | kernel_rfl | rfl, ?_⟩; intro w hSw; (try dsimp only at hSw); have d2 := HC2.out _ hSw; have d6 := HX6.out _ hSw; have d7 := HX7.out _ hSw; go_simp <;> (try with_reducible rfl))
        try simp only [Act.put, List.setIfInBounds_toArray, List.set_cons_zero, List.set_cons_succ]
        refine wpAnyH_take (i := 2) (oi := ?o3o) (v := ?o3v) ?o3h (by kernel_rfl) (by kernel_rfl) (by kernel_rfl) ?o3q ?o3y hHeld ?o3r
        case o3h => (simp only [List.getElem?_toArray, List.getElem?_cons_succ, List.getElem?_cons_zero]; rfl)
        case o3q => exact fun _ _ _ h => h
        case o3y => (refine Or.inl ⟨by first | kernel_rfl | rfl, ?_⟩; intro w hSw; (try dsimp only at hSw); have d2 := HC2.out _ hSw; have d6 := HX6.out _ hSw; have d7 := HX7.out _ hSw; go_simp <;> (try with_reducible rfl))
        try simp only [Act.put, List.setIfInBounds_toArray, List.set_cons_zero, List.set_cons_succ]
        refine wpAnyH_take (i := 3) (oi := ?o4o) (v := ?o4v) ?o4h (by kernel_rfl) (by kernel_rfl) (by kernel_rfl) ?o4q ?o4y hHeld ?o4r
        case o4h => (simp only [List.getElem?_toArray, List.getElem?_cons_succ, List.getElem?_cons_zero]; rfl)
        case o4q => exact fun _ _ _ h => h
        case o4y => (refine Or.inl ⟨by first | kernel_rfl | rfl, ?_⟩; intro w hSw; (try dsimp only at hSw); have d2 := HC2.out _ hSw; have d6 := HX6.out _ hSw; have d7 := HX7.out _ hSw; go_simp <;> (try with_reducible rfl))
        try simp only [Act.put, List.setIfInBounds_toArray, List.set_cons_zero, List.set_cons_succ]
        refine wpAnyH_take (i := 4) (oi := ?o5o) (v := ?o5v) ?o5h (by kernel_rfl) (by kernel_rfl) (by kernel_rfl) ?o5q ?o5y hHeld ?o5r
        case o5h => (simp only [List.getElem?_toArray, List.getElem?_cons_succ, List.getElem?_cons_zero]; rfl)
        case o5q => exact fun _ _ _ h => h
        case o5y => (refine Or.inl ⟨by first | kernel_rfl | rfl, ?_⟩; intro w hSw; (try dsimp only at hSw); have d2 := HC2.out _ hSw; have d6 := HX6.out _ hSw; have d7 := HX7.out _ hSw; go_simp <;> (try with_reducible rfl))
        try simp only [Act.put, List.setIfInBounds_toArray, List.set_cons_zero, List.set_cons_succ]
        refine wpAnyH_take (i := 5) (oi := ?o6o) (v := ?o6v) ?o6h (by kernel_rfl) (by kernel_rfl) (by kernel_rfl) ?o6q ?o6y hHeld ?o6r
        case o6h => (simp only [List.getElem?_toArray, List.getElem?_cons_succ, List.getElem?_cons_zero]; rfl)
        case o6q => exact fun _ _ _ h => h
        case o6y => (refine Or.inl ⟨by first | kernel_rfl | rfl, ?_⟩; intro w hSw; (try dsimp only at hSw); have d2 := HC2.out _ hSw; have d6 := HX6.out _ hSw; have d7 := HX7.out _ hSw; go_simp <;> (try with_reducible rfl))
        try simp only [Act.put, List.setIfInBounds_toArray, List.set_cons_zero, List.set_cons_succ]
        refine wpAnyH_take (i := 6) (oi := ?o7o) (v := ?o7v) ?o7h (by kernel_rfl) (by kernel_rfl) (by kernel_rfl) ?o7q ?o7y hHeld ?o7r
        case o7h => (simp only [List.getElem?_toArray, List.getElem?_cons_succ, List.getElem?_cons_zero]; rfl)
        case o7q => exact fun _ _ _ h => h
        case o7y => (refine Or.inl ⟨by first | kernel_rfl | rfl, ?_⟩; intro w hSw; (try dsimp only at hSw); have d2 := HC2.out _ hSw; have d6 := HX6.out _ hSw; have d7 := HX7.out _ hSw; go_simp <;> (try with_reducible rfl))
        try simp only [Act.put, List.setIfInBounds_toArray, List.set_cons_zero, List.set_cons_succ]
        refine wpAnyH_take (i := 7) (oi := ?o8o) (v := ?o8v) ?o8h (by kernel_rfl) (by kernel_rfl) (by kernel_rfl) ?o8q ?o8y hHeld ?o8r
        case o8h => (simp only [List.getElem?_toArray, List.getElem?_cons_succ, List.getElem?_cons_zero]; rfl)
        case o8q => exact fun _ _ _ h => h
        case o8y => (refine Or.inl ⟨by first | kernel_rfl | rfl, ?_⟩; intro w hSw; (try dsimp only at hSw); have d2 := HC2.out _ hSw; have d6 := HX6.out _ hSw; have d7 := HX7.out _ hSw; go_simp <;> (try with_reducible rfl))
        try simp only [Act.put, List.setIfInBounds_toArray, List.set_cons_zero, List.set_cons_succ]
        refine wpAnyH_take (i := 8) (oi := ?o9o) (v := ?o9v) ?o9h (by kernel_rfl) (by kernel_rfl) (by kernel_rfl) ?o9q ?o9y hHeld ?o9r
        case o9h => (simp only [List.getElem?_toArray, List.getElem?_cons_succ, List.getElem?_cons_zero]; rfl)
        case o9q => exact fun _ _ _ h => h
        case o9y => (refine Or.inl ⟨by first | kernel_rfl | rfl, ?_⟩; intro w hSw; (try dsimp only at hSw); have d2 := HC2.out _ hSw; have d6 := HX6.out _ hSw; have d7 := HX7.out _ hSw; go_simp <;> (try with_reducible rfl))
        try simp only [Act.put, List.setIfInBounds_toArray, List.set_cons_zero, List.set_cons_succ]
        refine wpAnyH_take (i := 9) (oi := ?o10o) (v := ?o10v) ?o10h (by kernel_rfl) (by kernel_rfl) (by kernel_rfl) ?o10q ?o10y hHeld ?o10r
        case o10h => (simp only [List.getElem?_toArray, List.getElem?_cons_succ, List.getElem?_cons_zero]; rfl)
        case o10q => exact fun _ _ _ h => h
        case o10y => (refine Or.inl ⟨by first | kernel_rfl | rfl, ?_⟩; intro w hSw; (try dsimp only at hSw); have d2 := HC2.out _ hSw; have d6 := HX6.out _ hSw; have d7 := HX7.out _ hSw; go_simp <;> (try with_reducible rfl))
        try simp only [Act.put, List.setIfInBounds_toArray, List.set_cons_zero, List.set_cons_succ]
        refine wpAnyH_take (i := 10) (oi := ?o11o) (v := ?o11v) ?o11h (by kernel_rfl) (by kernel_rfl) (by kernel_rfl) ?o11q ?o11y hHeld ?o11r
        case o11h => (simp only [List.getElem?_toArray, List.getElem?_cons_succ, List.getElem?_cons_zero]; rfl)
        case o11q => exact fun _ _ _ h => h
        case o11y => (refine Or.inl ⟨by first | kernel_rfl | rfl, ?_⟩; intro w hSw; (try dsimp only at hSw); have d2 := HC2.out _ hSw; have d6 := HX6.out _ hSw; have d7 := HX7.out _ hSw; go_simp <;> (try with_reducible rfl))
        try simp only [Act.put, List.setIfInBounds_toArray, List.set_cons_zero, List.set_cons_succ]
        refine wpAnyH_take (i := 11) (oi := ?o12o) (v := ?o12v) ?o12h (by kernel_rfl) (by kernel_rfl) (by kernel_rfl) ?o12q ?o12y hHeld ?o12r
        case o12h => (simp only [List.getElem?_toArray, List.getElem?_cons_succ, List.getElem?_cons_zero]; rfl)
        case o12q => exact fun _ _ _ h => h
        case o12y => (refine Or.inl ⟨by first | kernel_rfl | rfl, ?_⟩; intro w hSw; (try dsimp only at hSw); have d2 := HC2.out _ hSw; have d6 := HX6.out _ hSw; have d7 := HX7.out _ hSw; go_simp <;> (try with_reducible rfl))
        try simp only [Act.put, List.setIfInBounds_toArray, List.set_cons_zero, List.set_cons_succ]
        refine wpAnyH_take (i := 12) (oi := ?o13o) (v := ?o13v) ?o13h (by kernel_rfl) (by kernel_rfl) (by kernel_rfl) ?o13q ?o13y hHeld ?o13r
        case o13h => (simp only [List.getElem?_toArray, List.getElem?_cons_succ, List.getElem?_cons_zero]; rfl)
        case o13q => exact fun _ _ _ h => h
        case o13y => (refine Or.inl ⟨by first | kernel_rfl | rfl, ?_⟩; intro w hSw; (try dsimp only at hSw); have d2 := HC2.out _ hSw; have d6 := HX6.out _ hSw; have d7 := HX7.out _ hSw; go_simp <;> (try with_reducible rfl))
        try simp only [Act.put, List.setIfInBounds_toArray, List.set_cons_zero, List.set_cons_succ]
        refine wpAnyH_take (i := 13) (oi := ?o14o) (v := ?o14v) ?o14h (by kernel_rfl) (by kernel_rfl) (by kernel_rfl) ?o14q ?o14y hHeld ?o14r
        case o14h => (simp only [List.getElem?_toArray, List.getElem?_cons_succ, List.getElem?_cons_zero]; rfl)
        case o14q => exact fun _ _ _ h => h
        case o14y => (refine Or.inl ⟨by first | kernel_rfl | rfl, ?_⟩; intro w hSw; (try dsimp only at hSw); have d2 := HC2.out _ hSw; have d6 := HX6.out _ hSw; have d7 := HX7.out _ hSw; go_simp <;> (try with_reducible rfl))
        try simp only [Act.put, List.setIfInBounds_toArray, List.set_cons_zero, List.set_cons_succ]
        refine wpAnyH_take (i := 14) (oi := ?o15o) (v := ?o15v) ?o15h (by kernel_rfl) (by kernel_rfl) (by kernel_rfl) ?o15q ?o15y hHeld ?o15r
        case o15h => (simp only [List.getElem?_toArray, List.getElem?_cons_succ, List.getElem?_cons_zero]; rfl)
        case o15q => exact fun _ _ _ h => h
        case o15y => (refine Or.inl ⟨by first | kernel_rfl | rfl, ?_⟩; intro w hSw; (try dsimp only at hSw); have d2 := HC2.out _ hSw; have d6 := HX6.out _ hSw; have d7 := HX7.out _ hSw; go_simp <;> (try with_reducible rfl))
        try simp only [Act.put, List.setIfInBounds_toArray, List.set_cons_zero, List.set_cons_succ]
        refine wpAnyH_take (i := 15) (oi := ?o16o) (v := ?o16v) ?o16h (by kernel_rfl) (by kernel_rfl) (by kernel_rfl) ?o16q ?o16y hHeld ?o16r
        case o16h => (simp only [List.getElem?_toArray, List.getElem?_cons_succ, List.getElem?_cons_zero]; rfl)
        case o16q => exact fun _ _ _ h => h
        case o16y => (refine Or.inl ⟨by first | kernel_rfl | rfl, ?_⟩; intro w hSw; (try dsimp only at hSw); have d2 := HC2.out _ hSw; have d6 := HX6.out _ hSw; have d7 := HX7.out _ hSw; go_simp <;> (try with_reducible rfl))
        try simp only [Act.put, List.setIfInBounds_toArray, List.set_cons_zero, List.set_cons_succ]
        refine wpAnyH_take (i := 16) (oi := ?o17o) (v := ?o17v) ?o17h (by kernel_rfl) (by kernel_rfl) (by kernel_rfl) ?o17q ?o17y hHeld ?o17r
        case o17h => (simp only [List.getElem?_toArray, List.getElem?_cons_succ, List.getElem?_cons_zero]; rfl)
        case o17q => exact fun _ _ _ h => h
        case o17y => (refine Or.inl ⟨by first | kernel_rfl | rfl, ?_⟩; intro w hSw; (try dsimp only at hSw); have d2 := HC2.out _ hSw; have d6 := HX6.out _ hSw; have d7 := HX7.out _ hSw; go_simp <;> (try with_reducible rfl))
        try simp only [Act.put, List.setIfInBounds_toArray, List.set_cons_zero, List.set_cons_succ]
        refine wpAnyH_take (i := 17) (oi := ?o18o) (v := ?o18v) ?o18h (by kernel_rfl) (by kernel_rfl) (by kernel_rfl) ?o18q ?o18y hHeld ?o18r
        case o18h => (simp only [List.getElem?_toArray, List.getElem?_cons_succ, List.getElem?_cons_zero]; rfl)
        case o18q => exact fun _ _ _ h => h
        case o18y => (refine Or.inl ⟨by first | kernel_rfl | rfl, ?_⟩; intro w hSw; (try dsimp only at hSw); have d2 := HC2.out _ hSw; have d6 := HX6.out _ hSw; have d7 := HX7.out _ hSw; go_simp <;> (try with_reducible rfl))
        try simp only [Act.put, List.setIfInBounds_toArray, List.set_cons_zero, List.set_cons_succ]
        refine wpAnyH_take (i := 18) (oi := ?o19o) (v := ?o19v) ?o19h (by kernel_rfl) (by kernel_rfl) (by kernel_rfl) ?o19q ?o19y hHeld ?o19r
        case o19h => (simp only [List.getElem?_toArray, List.getElem?_cons_succ, List.getElem?_cons_zero]; rfl)
        case o19q => exact fun _ _ _ h => h
        case o19y => (refine Or.inl ⟨by first | kernel_rfl | rfl, ?_⟩; intro w hSw; (try dsimp only at hSw); have d2 := HC2.out _ hSw; have d6 := HX6.out _ hSw; have d7 := HX7.out _ hSw; go_simp <;> (try with_reducible rfl))
        try simp only [Act.put, List.setIfInBounds_toArray, List.set_cons_zero, List.set_cons_succ]
        refine wpAnyH_take (i := 19) (oi := ?o20o) (v := ?o20v) ?o20h (by kernel_rfl) (by kernel_rfl) (by kernel_rfl) ?o20q ?o20y hHeld ?o20r
        case o20h => (simp only [List.getElem?_toArray, List.getElem?_cons_succ, List.getElem?_cons_zero]; rfl)
        case o20q => exact fun _ _ _ h => h
        case o20y => (refine Or.inl ⟨by first | kernel_rfl | rfl, ?_⟩; intro w hSw; (try dsimp only at hSw); have d2 := HC2.out _ hSw; have d6 := HX6.out _ hSw; have d7 := HX7.out _ hSw; go_simp <;> (try with_reducible rfl))
        try simp only [Act.put, List.setIfInBounds_toArray, List.set_cons_zero, List.set_cons_succ]
        refine wpAnyH_take (i := 20) (oi := ?o21o) (v := ?o21v) ?o21h (by kernel_rfl) (by kernel_rfl) (by kernel_rfl) ?o21q ?o21y hHeld ?o21r
        case o21h => (simp only [List.getElem?_toArray, List.getElem?_cons_succ, List.getElem?_cons_zero]; rfl)
        case o21q => exact fun _ _ _ h => h
        case o21y => (refine Or.inl ⟨by first | kernel_rfl | rfl, ?_⟩; intro w hSw; (try dsimp only at hSw); have d2 := HC2.out _ hSw; have d6 := HX6.out _ hSw; have d7 := HX7.out _ hSw; go_simp <;> (try with_reducible rfl))
        try simp only [Act.put, List.setIfInBounds_toArray, List.set_cons_zero, List.set_cons_succ]
        refine wpAnyH_take (i := 21) (oi := ?o22o) (v := ?o22v) ?o22h (by kernel_rfl) (by kernel_rfl) (by kernel_rfl) ?o22q ?o22y hHeld ?o22r
        case o22h => (simp only [List.getElem?_toArray, List.getElem?_cons_succ, List.getElem?_cons_zero]; rfl)
        case o22q => exact fun _ _ _ h => h
        case o22y => (refine Or.inl ⟨by first | kernel_rfl | rfl, ?_⟩; intro w hSw; (try dsimp only at hSw); have d2 := HC2.out _ hSw; have d6 := HX6.out _ hSw; have d7 := HX7.out _ hSw; go_simp <;> (try with_reducible rfl))
        try simp only [Act.put, List.setIfInBounds_toArray, List.set_cons_zero, List.set_cons_succ]
        refine wpAnyH_take (i := 22) (oi := ?o23o) (v := ?o23v) ?o23h (by kernel_rfl) (by kernel_rfl) (by kernel_rfl) ?o23q ?o23y hHeld ?o23r
        case o23h => (simp only [List.getElem?_toArray, List.getElem?_cons_succ, List.getElem?_cons_zero]; rfl)
        case o23q => exact fun _ _ _ h => h
        case o23y => (refine Or.inl ⟨by first | kernel_rfl | rfl, ?_⟩; intro w hSw; (try dsimp only at hSw); have d2 := HC2.out _ hSw; have d6 := HX6.out _ hSw; have d7 := HX7.out _ hSw; go_simp <;> (try with_reducible rfl))
        try simp only [Act.put, List.setIfInBounds_toArray, List.set_cons_zero, List.set_cons_succ]
        refine wpAnyH_take (i := 23) (oi := ?o24o) (v := ?o24v) ?o24h (by kernel_rfl) (by kernel_rfl) (by kernel_rfl) ?o24q ?o24y hHeld ?o24r
        case o24h => (simp only [List.getElem?_toArray, List.getElem?_cons_succ, List.getElem?_cons_zero]; rfl)
        case o24q => exact fun _ _ _ h => h
        case o24y => (refine Or.inl ⟨by first | kernel_rfl | rfl, ?_⟩; intro w hSw; (try dsimp only at hSw); have d2 := HC2.out _ hSw; have d6 := HX6.out _ hSw; have d7 := HX7.out _ hSw; go_simp <;> (try with_reducible rfl))
        try simp only [Act.put, List.setIfInBounds_toArray, List.set_cons_zero, List.set_cons_succ]
        refine wpAnyH_take (i := 24) (oi := ?o25o) (v := ?o25v) ?o25h (by kernel_rfl) (by kernel_rfl) (by kernel_rfl) ?o25q ?o25y hHeld ?o25r
        case o25h => (simp only [List.getElem?_toArray, List.getElem?_cons_succ, List.getElem?_cons_zero]; rfl)
        case o25q => exact fun _ _ _ h => h
        case o25y => (refine Or.inl ⟨by first | kernel_rfl | rfl, ?_⟩; intro w hSw; (try dsimp only at hSw); have d2 := HC2.out _ hSw; have d6 := HX6.out _ hSw; have d7 := HX7.out _ hSw; go_simp <;> (try with_reducible rfl))
        try simp only [Act.put, List.setIfInBounds_toArray, List.set_cons_zero, List.set_cons_succ]
        refine wpAnyH_take (i := 25) (oi := ?o26o) (v := ?o26v) ?o26h (by kernel_rfl) (by kernel_rfl) (by kernel_rfl) ?o26q ?o26y hHeld ?o26r
        case o26h => (simp only [List.getElem?_toArray, List.getElem?_cons_succ, List.getElem?_cons_zero]; rfl)
        case o26q => exact fun _ _ _ h => h
        case o26y => (refine Or.inl ⟨by first | kernel_rfl | rfl, ?_⟩; intro w hSw; (try dsimp only at hSw); have d2 := HC2.out _ hSw; have d6 := HX6.out _ hSw; have d7 := HX7.out _ hSw; go_simp <;> (try with_reducible rfl))
        try simp only [Act.put, List.setIfInBounds_toArray, List.set_cons_zero, List.set_cons_succ]
        refine wpAnyH_take (i := 26) (oi := ?o27o) (v := ?o27v) ?o27h (by kernel_rfl) (by kernel_rfl) (by kernel_rfl) ?o27q ?o27y hHeld ?o27r
        case o27h => (simp only [List.getElem?_toArray, List.getElem?_cons_succ, List.getElem?_cons_zero]; rfl)
        case o27q => exact fun _ _ _ h => h
        case o27y => (refine Or.inl ⟨by first | kernel_rfl | rfl, ?_⟩; intro w hSw; (try dsimp only at hSw); have d2 := HC2.out _ hSw; have d6 := HX6.out _ hSw; have d7 := HX7.out _ hSw; go_simp <;> (try with_reducible rfl))
        try simp only [Act.put, List.setIfInBounds_toArray, List.set_cons_zero, List.set_cons_succ]
        refine wpAnyH_ready (rs := [27]) (by kernel_rfl) (by simp) ?_
        refine (AllReadyH.cons rfl (fun K hK => ?_) AllReadyH.nil)
        go_simp
        (go_at_call 19; (with_reducible refine (HKA.out _ hHeld).mono ?_); rintro e w7 ⟨rfl, hb7⟩)
        refine hK.out _ _ (bel_next hHeld hb7) (fun hHeld => ?_)
        clear hK K
        try simp only [Act.put, List.setIfInBounds_toArray, List.set_cons_zero, List.set_cons_succ]
        refine wpAnyH_take (i := 28) (oi := ?o28o) (v := ?o28v) ?o28h (by kernel_rfl) (by kernel_rfl) (by kernel_rfl) ?o28q ?o28y hHeld ?o28r
        case o28h => (simp only [List.getElem?_toArray, List.getElem?_cons_succ, List.getElem?_cons_zero]; rfl)
        case o28q => exact fun _ _ _ h => h
        case o28y => (refine Or.inl ⟨by first | kernel_rfl | rfl, ?_⟩; intro w hSw; (try dsimp only at hSw); have d2 := HC2.out _ hSw; have d6 := HX6.out _ hSw; have d7 := HX7.out _ hSw; go_simp <;> (try with_reducible rfl))
        try simp only [Act.put, List.setIfInBounds_toArray, List.set_cons_zero, List.set_cons_succ]
        refine wpAnyH_take (i := 29) (oi := ?o29o) (v := ?o29v) ?o29h (by kernel_rfl) (by kernel_rfl) (by kernel_rfl) ?o29q ?o29y hHeld ?o29r
        case o29h => (simp only [List.getElem?_toArray, List.getElem?_cons_succ, List.getElem?_cons_zero]; rfl)
        case o29q => exact fun _ _ _ h => h
        case o29y => (refine Or.inl ⟨by first | kernel_rfl | rfl, ?_⟩; intro w hSw; (try dsimp only at hSw); have d2 := HC2.out _ hSw; have d6 := HX6.out _ hSw; have d7 := HX7.out _ hSw; go_simp <;> (try with_reducible rfl))
        try simp only [Act.put, List.setIfInBounds_toArray, List.set_cons_zero, List.set_cons_succ]
        refine wpAnyH_done (by kernel_rfl) ?_ _
        
        have hJ7 := HJ.out.later hHeld
        have HJ7 := Lib.hid hJ7
        have c1 := hJ7.at_.c1
        have c2 := hJ7.at_.c2
        rw [HN.out] at c2
        have hbd : Below w7.heap.size w7 w7.drew := (Below.refl _ _).drew
        have kw := rwithF_is _ K zst zq w7.drew (Ns.later hJ7.at_.kn hbd) hzq
        have HBD := Lib.hid hbd
        clear hJ7 hbd
        go_wp2_with fail
        refine wp_region_held_drew (S := (fun X : World => ∃ bx Kx, DAt X B b bx (.slice (some ⟨g, off, none⟩) zs.length c0) zs { S with base := Kx })) (by kernel_rfl) ⟨_, _, (HJ7.out.later HBD.out).at_⟩ (fun hHeld => ?_)
        refine wpAnyH_take (i := 0) (oi := ?s1o) (v := ?s1v) ?s1h (by kernel_rfl) (by kernel_rfl) (by kernel_rfl) ?s1q ?s1y hHeld ?s1r
        case s1h => (simp only [List.getElem?_toArray, List.getElem?_cons_zero]; rfl)
        case s1q => exact fun _ _ _ h => h
        case s1y => (refine Or.inl ⟨by first | kernel_rfl | rfl, ?_⟩; intro w hSw; (try dsimp only at hSw); obtain ⟨bx, Kx, hDx⟩ := hSw; have d2 := hDx.c2; rw [HN.out] at d2; obtain ⟨d6, d7⟩ := HCELL.out _ hDx.row; go_simp <;> (try with_reducible rfl))
        try simp only [Act.put, List.setIfInBounds_toArray, List.set_cons_zero, List.set_cons_succ]
        refine wpAnyH_take (i := 1) (oi := ?s2o) (v := ?s2v) ?s2h (by kernel_rfl) (by kernel_rfl) (by kernel_rfl) ?s2q ?s2y hHeld ?s2r
        case s2h => (simp only [List.getElem?_toArray, List.getElem?_cons_succ, List.getElem?_cons_zero]; rfl)
        case s2q => exact fun _ _ _ h => h
        case s2y => (refine Or.inl ⟨by first | kernel_rfl | rfl, ?_⟩; intro w hSw; (try dsimp only at hSw); obtain ⟨bx, Kx, hDx⟩ := hSw; have d2 := hDx.c2; rw [HN.out] at d2; obtain ⟨d6, d7⟩ := HCELL.out _ hDx.row; go_simp <;> (try with_reducible rfl))
        try simp only [Act.put, List.setIfInBounds_toArray, List.set_cons_zero, List.set_cons_succ]
        refine wpAnyH_take (i := 2) (oi := ?s3o) (v := ?s3v) ?s3h (by kernel_rfl) (by kernel_rfl) (by kernel_rfl) ?s3q ?s3y hHeld ?s3r
        case s3h => (simp only [List.getElem?_toArray, List.getElem?_cons_succ, List.getElem?_cons_zero]; rfl)
        case s3q => exact fun _ _ _ h => h
        case s3y => (refine Or.inl ⟨by first | kernel_rfl | rfl, ?_⟩; intro w hSw; (try dsimp only at hSw); obtain ⟨bx, Kx, hDx⟩ := hSw; have d2 := hDx.c2; rw [HN.out] at d2; obtain ⟨d6, d7⟩ := HCELL.out _ hDx.row; go_simp <;> (try with_reducible rfl))
        try simp only [Act.put, List.setIfInBounds_toArray, List.set_cons_zero, List.set_cons_succ]
        refine wpAnyH_take (i := 3) (oi := ?s4o) (v := ?s4v) ?s4h (by kernel_rfl) (by kernel_rfl) (by kernel_rfl) ?s4q ?s4y hHeld ?s4r
        case s4h => (simp only [List.getElem?_toArray, List.getElem?_cons_succ, List.getElem?_cons_zero]; rfl)
        case s4q => exact fun _ _ _ h => h
        case s4y => (refine Or.inl ⟨by first | kernel_rfl | rfl, ?_⟩; intro w hSw; (try dsimp only at hSw); obtain ⟨bx, Kx, hDx⟩ := hSw; have d2 := hDx.c2; rw [HN.out] at d2; obtain ⟨d6, d7⟩ := HCELL.out _ hDx.row; go_simp <;> (try with_reducible rfl))
        try simp only [Act.put, List.setIfInBounds_toArray, List.set_cons_zero, List.set_cons_succ]
        refine wpAnyH_take (i := 5) (oi := ?s5o) (v := ?s5v) ?s5h (by kernel_rfl) (by kernel_rfl) (by kernel_rfl) ?s5q ?s5y hHeld ?s5r
        case s5h => (simp only [List.getElem?_toArray, List.getElem?_cons_succ, List.getElem?_cons_zero]; rfl)
        case s5q => exact fun _ _ _ h => h
        case s5y => (refine Or.inl ⟨by first | kernel_rfl | rfl, ?_⟩; intro w hSw; (try dsimp only at hSw); obtain ⟨bx, Kx, hDx⟩ := hSw; have d2 := hDx.c2; rw [HN.out] at d2; obtain ⟨d6, d7⟩ := HCELL.out _ hDx.row; go_simp <;> (try with_reducible rfl))
        try simp only [Act.put, List.setIfInBounds_toArray, List.set_cons_zero, List.set_cons_succ]
        refine wpAnyH_take (i := 6) (oi := ?s6o) (v := ?s6v) ?s6h (by kernel_rfl) (by kernel_rfl) (by kernel_rfl) ?s6q ?s6y hHeld ?s6r
        case s6h => (simp only [List.getElem?_toArray, List.getElem?_cons_succ, List.getElem?_cons_zero]; rfl)
        case s6q => exact fun _ _ _ h => h
        case s6y => (refine Or.inl ⟨by first | kernel_rfl | rfl, ?_⟩; intro w hSw; (try dsimp only at hSw); obtain ⟨bx, Kx, hDx⟩ := hSw; have d2 := hDx.c2; rw [HN.out] at d2; obtain ⟨d6, d7⟩ := HCELL.out _ hDx.row; go_simp <;> (try with_reducible rfl))
        try simp only [Act.put, List.setIfInBounds_toArray, List.set_cons_zero, List.set_cons_succ]
        refine wpAnyH_take (i := 7) (oi := ?s7o) (v := ?s7v) ?s7h (by kernel_rfl) (by kernel_rfl) (by kernel_rfl) ?s7q ?s7y hHeld ?s7r
        case s7h => (simp only [List.getElem?_toArray, List.getElem?_cons_succ, List.getElem?_cons_zero]; rfl)
        case s7q => exact fun _ _ _ h => h
        case s7y => (refine Or.inl ⟨by first | kernel_rfl | rfl, ?_⟩; intro w hSw; (try dsimp only at hSw); obtain ⟨bx, Kx, hDx⟩ := hSw; have d2 := hDx.c2; rw [HN.out] at d2; obtain ⟨d6, d7⟩ := HCELL.out _ hDx.row; go_simp <;> (try with_reducible rfl))
        try simp only [Act.put, List.setIfInBounds_toArray, List.set_cons_zero, List.set_cons_succ]
        refine wpAnyH_take (i := 8) (oi := ?s8o) (v := ?s8v) ?s8h (by kernel_rfl) (by kernel_rfl) (by kernel_rfl) ?s8q ?s8y hHeld ?s8r
        case s8h => (simp only [List.getElem?_toArray, List.getElem?_cons_succ, List.getElem?_cons_zero]; rfl)
        case s8q => exact fun _ _ _ h => h
        case s8y => (refine Or.inl ⟨by first | kernel_rfl | rfl, ?_⟩; intro w hSw; (try dsimp only at hSw); obtain ⟨bx, Kx, hDx⟩ := hSw; have d2 := hDx.c2; rw [HN.out] at d2; obtain ⟨d6, d7⟩ := HCELL.out _ hDx.row; go_simp <;> (try with_reducible rfl))
        try simp only [Act.put, List.setIfInBounds_toArray, List.set_cons_zero, List.set_cons_succ]
        refine wpAnyH_take (i := 9) (oi := ?s9o) (v := ?s9v) ?s9h (by kernel_rfl) (by kernel_rfl) (by kernel_rfl) ?s9q ?s9y hHeld ?s9r
        case s9h => (simp only [List.getElem?_toArray, List.getElem?_cons_succ, List.getElem?_cons_zero]; rfl)
        case s9q => exact fun _ _ _ h => h
        case s9y => (refine Or.inl ⟨by first | kernel_rfl | rfl, ?_⟩; intro w hSw; (try dsimp only at hSw); obtain ⟨bx, Kx, hDx⟩ := hSw; have d2 := hDx.c2; rw [HN.out] at d2; obtain ⟨d6, d7⟩ := HCELL.out _ hDx.row; go_simp <;> (try with_reducible rfl))
        try simp only [Act.put, List.setIfInBounds_toArray, List.set_cons_zero, List.set_cons_succ]
        refine wpAnyH_take (i := 10) (oi := ?s10o) (v := ?s10v) ?s10h (by kernel_rfl) (by kernel_rfl) (by kernel_rfl) ?s10q ?s10y hHeld ?s10r
        case s10h => (simp only [List.getElem?_toArray, List.getElem?_cons_succ, List.getElem?_cons_zero]; rfl)
        case s10q => exact fun _ _ _ h => h
        case s10y => (refine Or.inl ⟨by first | kernel_rfl | rfl, ?_⟩; intro w hSw; (try dsimp only at hSw); obtain ⟨bx, Kx, hDx⟩ := hSw; have d2 := hDx.c2; rw [HN.out] at d2; obtain ⟨d6, d7⟩ := HCELL.out _ hDx.row; go_simp <;> (try with_reducible rfl))
        try simp only [Act.put, List.setIfInBounds_toArray, List.set_cons_zero, List.set_cons_succ]
        refine wpAnyH_take (i := 11) (oi := ?s11o) (v := ?s11v) ?s11h (by kernel_rfl) (by kernel_rfl) (by kernel_rfl) ?s11q ?s11y hHeld ?s11r
        case s11h => (simp only [List.getElem?_toArray, List.getElem?_cons_succ, List.getElem?_cons_zero]; rfl)
        case s11q => exact fun _ _ _ h => h
        case s11y => (refine Or.inl ⟨by first | kernel_rfl | rfl, ?_⟩; intro w hSw; (try dsimp only at hSw); obtain ⟨bx, Kx, hDx⟩ := hSw; have d2 := hDx.c2; rw [HN.out] at d2; obtain ⟨d6, d7⟩ := HCELL.out _ hDx.row; go_simp <;> (try with_reducible rfl))
        try simp only [Act.put, List.setIfInBounds_toArray, List.set_cons_zero, List.set_cons_succ]
        refine wpAnyH_take (i := 12) (oi := ?s12o) (v := ?s12v) ?s12h (by kernel_rfl) (by kernel_rfl) (by kernel_rfl) ?s12q ?s12y hHeld ?s12r
        case s12h => (simp only [List.getElem?_toArray, List.getElem?_cons_succ, List.getElem?_cons_zero]; rfl)
        case s12q => exact fun _ _ _ h => h
        case s12y => (refine Or.inl ⟨by first | kernel_rfl | rfl, ?_⟩; intro w hSw; (try dsimp only at hSw); obtain ⟨bx, Kx, hDx⟩ := hSw; have d2 := hDx.c2; rw [HN.out] at d2; obtain ⟨d6, d7⟩ := HCELL.out _ hDx.row; go_simp <;> (try with_reducible rfl))
        try simp only [Act.put, List.setIfInBounds_toArray, List.set_cons_zero, List.set_cons_succ]
        refine wpAnyH_take (i := 13) (oi := ?s13o) (v := ?s13v) ?s13h (by kernel_rfl) (by kernel_rfl) (by kernel_rfl) ?s13q ?s13y hHeld ?s13r
        case s13h => (simp only [List.getElem?_toArray, List.getElem?_cons_succ, List.getElem?_cons_zero]; rfl)
        case s13q => exact fun _ _ _ h => h
        case s13y => (refine Or.inl ⟨by first | kernel_rfl | rfl, ?_⟩; intro w hSw; (try dsimp only at hSw); obtain ⟨bx, Kx, hDx⟩ := hSw; have d2 := hDx.c2; rw [HN.out] at d2; obtain ⟨d6, d7⟩ := HCELL.out _ hDx.row; go_simp <;> (try with_reducible rfl))
        try simp only [Act.put, List.setIfInBounds_toArray, List.set_cons_zero, List.set_cons_succ]
        refine wpAnyH_take (i := 14) (oi := ?s14o) (v := ?s14v) ?s14h (by kernel_rfl) (by kernel_rfl) (by kernel_rfl) ?s14q ?s14y hHeld ?s14r
        case s14h => (simp only [List.getElem?_toArray, List.getElem?_cons_succ, List.getElem?_cons_zero]; rfl)
        case s14q => exact fun _ _ _ h => h
        case s14y => (refine Or.inl ⟨by first | kernel_rfl | rfl, ?_⟩; intro w hSw; (try dsimp only at hSw); obtain ⟨bx, Kx, hDx⟩ := hSw; have d2 := hDx.c2; rw [HN.out] at d2; obtain ⟨d6, d7⟩ := HCELL.out _ hDx.row; go_simp <;> (try with_reducible rfl))
        try simp only [Act.put, List.setIfInBounds_toArray, List.set_cons_zero, List.set_cons_succ]
        refine wpAnyH_take (i := 15) (oi := ?s15o) (v := ?s15v) ?s15h (by kernel_rfl) (by kernel_rfl) (by kernel_rfl) ?s15q ?s15y hHeld ?s15r
        case s15h => (simp only [List.getElem?_toArray, List.getElem?_cons_succ, List.getElem?_cons_zero]; rfl)
        case s15q => exact fun _ _ _ h => h
        case s15y => (refine Or.inl ⟨by first | kernel_rfl | rfl, ?_⟩; intro w hSw; (try dsimp only at hSw); obtain ⟨bx, Kx, hDx⟩ := hSw; have d2 := hDx.c2; rw [HN.out] at d2; obtain ⟨d6, d7⟩ := HCELL.out _ hDx.row; go_simp <;> (try with_reducible rfl))
        try simp only [Act.put, List.setIfInBounds_toArray, List.set_cons_zero, List.set_cons_succ]
        refine wpAnyH_take (i := 16) (oi := ?s16o) (v := ?s16v) ?s16h (by kernel_rfl) (by kernel_rfl) (by kernel_rfl) ?s16q ?s16y hHeld ?s16r
        case s16h => (simp only [List.getElem?_toArray, List.getElem?_cons_succ, List.getElem?_cons_zero]; rfl)
        case s16q => exact fun _ _ _ h => h
        case s16y => (refine Or.inl ⟨by first | kernel_rfl | rfl, ?_⟩; intro w hSw; (try dsimp only at hSw); obtain ⟨bx, Kx, hDx⟩ := hSw; have d2 := hDx.c2; rw [HN.out] at d2; obtain ⟨d6, d7⟩ := HCELL.out _ hDx.row; go_simp <;> (try with_reducible rfl))
        try simp only [Act.put, List.setIfInBounds_toArray, List.set_cons_zero, List.set_cons_succ]
        refine wpAnyH_take (i := 17) (oi := ?s17o) (v := ?s17v) ?s17h (by kernel_rfl) (by kernel_rfl) (by kernel_rfl) ?s17q ?s17y hHeld ?s17r
        case s17h => (simp only [List.getElem?_toArray, List.getElem?_cons_succ, List.getElem?_cons_zero]; rfl)
        case s17q => exact fun _ _ _ h => h
        case s17y => (refine Or.inl ⟨by first | kernel_rfl | rfl, ?_⟩; intro w hSw; (try dsimp only at hSw); obtain ⟨bx, Kx, hDx⟩ := hSw; have d2 := hDx.c2; rw [HN.out] at d2; obtain ⟨d6, d7⟩ := HCELL.out _ hDx.row; go_simp <;> (try with_reducible rfl))
        try simp only [Act.put, List.setIfInBounds_toArray, List.set_cons_zero, List.set_cons_succ]
        refine wpAnyH_take (i := 18) (oi := ?s18o) (v := ?s18v) ?s18h (by kernel_rfl) (by kernel_rfl) (by kernel_rfl) ?s18q ?s18y hHeld ?s18r
        case s18h => (simp only [List.getElem?_toArray, List.getElem?_cons_succ, List.getElem?_cons_zero]; rfl)
        case s18q => exact fun _ _ _ h => h
        case s18y => (refine Or.inl ⟨by first | kernel_rfl | rfl, ?_⟩; intro w hSw; (try dsimp only at hSw); obtain ⟨bx, Kx, hDx⟩ := hSw; have d2 := hDx.c2; rw [HN.out] at d2; obtain ⟨d6, d7⟩ := HCELL.out _ hDx.row; go_simp <;> (try with_reducible rfl))
        try simp only [Act.put, List.setIfInBounds_toArray, List.set_cons_zero, List.set_cons_succ]
        refine wpAnyH_take (i := 19) (oi := ?s19o) (v := ?s19v) ?s19h (by kernel_rfl) (by kernel_rfl) (by kernel_rfl) ?s19q ?s19y hHeld ?s19r
        case s19h => (simp only [List.getElem?_toArray, List.getElem?_cons_succ, List.getElem?_cons_zero]; rfl)
        case s19q => exact fun _ _ _ h => h
        case s19y => (refine Or.inl ⟨by first | kernel_rfl | rfl, ?_⟩; intro w hSw; (try dsimp only at hSw); obtain ⟨bx, Kx, hDx⟩ := hSw; have d2 := hDx.c2; rw [HN.out] at d2; obtain ⟨d6, d7⟩ := HCELL.out _ hDx.row; go_simp <;> (try with_reducible rfl))
        try simp only [Act.put, List.setIfInBounds_toArray, List.set_cons_zero, List.set_cons_succ]
        refine wpAnyH_take (i := 20) (oi := ?s20o) (v := ?s20v) ?s20h (by kernel_rfl) (by kernel_rfl) (by kernel_rfl) ?s20q ?s20y hHeld ?s20r
        case s20h => (simp only [List.getElem?_toArray, List.getElem?_cons_succ, List.getElem?_cons_zero]; rfl)
        case s20q => exact fun _ _ _ h => h
        case s20y => (refine Or.inl ⟨by first | kernel_rfl | rfl, ?_⟩; intro w hSw; (try dsimp only at hSw); obtain ⟨bx, Kx, hDx⟩ := hSw; have d2 := hDx.c2; rw [HN.out] at d2; obtain ⟨d6, d7⟩ := HCELL.out _ hDx.row; go_simp <;> (try with_reducible rfl))
        try simp only [Act.put, List.setIfInBounds_toArray, List.set_cons_zero, List.set_cons_succ]
        refine wpAnyH_take (i := 21) (oi := ?s21o) (v := ?s21v) ?s21h (by kernel_rfl) (by kernel_rfl) (by kernel_rfl) ?s21q ?s21y hHeld ?s21r
        case s21h => (simp only [List.getElem?_toArray, List.getElem?_cons_succ, List.getElem?_cons_zero]; rfl)
        case s21q => exact fun _ _ _ h => h
        case s21y => (refine Or.inl ⟨by first | kernel_rfl | rfl, ?_⟩; intro w hSw; (try dsimp only at hSw); obtain ⟨bx, Kx, hDx⟩ := hSw; have d2 := hDx.c2; rw [HN.out] at d2; obtain ⟨d6, d7⟩ := HCELL.out _ hDx.row; go_simp <;> (try with_reducible rfl))
        try simp only [Act.put, List.setIfInBounds_toArray, List.set_cons_zero, List.set_cons_succ]
        refine wpAnyH_take (i := 22) (oi := ?s22o) (v := ?s22v) ?s22h (by kernel_rfl) (by kernel_rfl) (by kernel_rfl) ?s22q ?s22y hHeld ?s22r
        case s22h => (simp only [List.getElem?_toArray, List.getElem?_cons_succ, List.getElem?_cons_zero]; rfl)
        case s22q => exact fun _ _ _ h => h
        case s22y => (refine Or.inl ⟨by first | kernel_rfl | rfl, ?_⟩; intro w hSw; (try dsimp only at hSw); obtain ⟨bx, Kx, hDx⟩ := hSw; have d2 := hDx.c2; rw [HN.out] at d2; obtain ⟨d6, d7⟩ := HCELL.out _ hDx.row; go_simp <;> (try with_reducible rfl))
        try simp only [Act.put, List.setIfInBounds_toArray, List.set_cons_zero, List.set_cons_succ]
        refine wpAnyH_ready (rs := [4]) (by kernel_rfl) (by simp) ?_
        refine (AllReadyH.cons rfl (fun K hK => ?_) AllReadyH.nil)
        go_simp
        skip
        refine hK.out _ _ (hHeld) (fun hHeld => ?_)
        clear hK K
        try simp only [Act.put, List.setIfInBounds_toArray, List.set_cons_zero, List.set_cons_succ]
        refine wpAnyH_ready (rs := [23]) (by kernel_rfl) (by simp) ?_
        refine (AllReadyH.cons rfl (fun K hK => ?_) AllReadyH.nil)
        go_simp
        (go_at_call 32; (with_reducible refine kw.mono ?_); rintro e w9 ⟨v9, rfl, hn9, hb9, hf9⟩; (obtain ⟨a9, c9, rfl⟩ := hn9.slice); (have HJ9 := Lib.hid ((HJ7.out.later HBD.out).later hb9)); (have hfz := HJ9.out.at_.fz 1); (have d1 := HJ9.out.at_.c1); (have HJA := Lib.hid (HJ9.out.more hn9 (fun q hq => ⟨by have h7 := (hf9 q hq).1; have h8 := HBD.out.size; have h9 := HJ7.out.fr.size; omega, (hf9 q hq).2⟩) HNX HVW.out)); clear hn9 hb9 hf9)
        refine hK.out _ _ (⟨_, _, HJ9.out.at_⟩) (fun hHeld => ?_)
        clear hK K
        try simp only [Act.put, List.setIfInBounds_toArray, List.set_cons_zero, List.set_cons_succ]
        refine wpAnyH_take (i := 24) (oi := ?s23o) (v := ?s23v) ?s23h (by kernel_rfl) (by kernel_rfl) (by kernel_rfl) ?s23q ?s23y hHeld ?s23r
        case s23h => (simp only [List.getElem?_toArray, List.getElem?_cons_succ, List.getElem?_cons_zero]; rfl)
        case s23q => exact fun _ _ _ h => h
        case s23y => (refine Or.inl ⟨by first | kernel_rfl | rfl, ?_⟩; intro w hSw; (try dsimp only at hSw); obtain ⟨bx, Kx, hDx⟩ := hSw; have d2 := hDx.c2; rw [HN.out] at d2; obtain ⟨d6, d7⟩ := HCELL.out _ hDx.row; go_simp <;> (try with_reducible rfl))
        try simp only [Act.put, List.setIfInBounds_toArray, List.set_cons_zero, List.set_cons_succ]
        refine wpAnyH_take (i := 25) (oi := ?s24o) (v := ?s24v) ?s24h (by kernel_rfl) (by kernel_rfl) (by kernel_rfl) ?s24q ?s24y hHeld ?s24r
        case s24h => (simp only [List.getElem?_toArray, List.getElem?_cons_succ, List.getElem?_cons_zero]; rfl)
        case s24q => exact fun _ _ _ h => h
        case s24y => (refine Or.inl ⟨by first | kernel_rfl | rfl, ?_⟩; intro w hSw; (try dsimp only at hSw); obtain ⟨bx, Kx, hDx⟩ := hSw; have d2 := hDx.c2; rw [HN.out] at d2; obtain ⟨d6, d7⟩ := HCELL.out _ hDx.row; go_simp <;> (try with_reducible rfl))
        try simp only [Act.put, List.setIfInBounds_toArray, List.set_cons_zero, List.set_cons_succ]
        refine wpAnyH_ready (rs := [26]) (by kernel_rfl) (by simp) ?_
        refine (AllReadyH.cons rfl (fun K hK => ?_) AllReadyH.nil)
        go_simp
        skip
        refine hK.out _ _ (⟨_, _, HJA.out.at_⟩) (fun hHeld => ?_)
        clear hK K
        try simp only [Act.put]
        refine wpAnyH_done (by kernel_rfl) ?_ _
        
        go_wp2
        go_roundw
        case rel => exact ⟨k + 1, _, by omega, by go_num, by rw [HST.out]; exact HJA⟩
        case measure => simp [intOf]; omega
      · have HK := Lib.hid (show K = knowL S.base (S.L.take k) ∧ trimN V S.L = k from ⟨hK.symm, trimN_eq (by omega) (fun j hj hjk => by
          have hjz : j < zs.length := by rw [HLAT.out.at_.len]; exact hj
          rw [← HLAT.out.at_.get hjz hj]
          exact HJ.out.no j hjz hjk) (Or.inr ⟨hkL, by rw [← hzr, hby]; exact decide_eq_true (by omega)⟩)⟩)
        clear hcs hz hzr hok hgl hby hy hr9 hkz hkL hst hK
        go_wp2_with fail
        refine wp_region_held_drew (S := (fun X : World => Below wr.heap.size wr X)) (by kernel_rfl) (Below.refl _ _).drew (fun hHeld => ?_)
        refine wpAnyH_take (i := 0) (oi := ?p1o) (v := ?p1v) ?p1h (by kernel_rfl) (by kernel_rfl) (by kernel_rfl) ?p1q ?p1y hHeld ?p1r
        case p1h => (simp only [List.getElem?_toArray, List.getElem?_cons_zero]; rfl)
        case p1q => exact fun _ _ _ h => h
        case p1y => (refine Or.inl ⟨by first | kernel_rfl | rfl, ?_⟩; intro w hSw; (try dsimp only at hSw); have d2 := HC2.out _ hSw; have d6 := HX6.out _ hSw; have d7 := HX7.out _ hSw; go_simp <;> (try with_reducible rfl))
        try simp only [Act.put, List.setIfInBounds_toArray, List.set_cons_zero, List.set_cons_succ]
        refine wpAnyH_take (i := 1) (oi := ?p2o) (v := ?p2v) ?p2h (by kernel_rfl) (by kernel_rfl) (by kernel_rfl) ?p2q ?p2y hHeld ?p2r
        case p2h => (simp only [List.getElem?_toArray, List.getElem?_cons_succ, List.getElem?_cons_zero]; rfl)
        case p2q => exact fun _ _ _ h => h
        case p2y => (refine Or.inl ⟨by first | kernel_rfl | rfl, ?_⟩; intro w hSw; (try dsimp only at hSw); have d2 := HC2.out _ hSw; have d6 := HX6.out _ hSw; have d7 := HX7.out _ hSw; go_simp <;> (try with_reducible rfl))
        try simp only [Act.put, List.setIfInBounds_toArray, List.set_cons_zero, List.set_cons_succ]
        refine wpAnyH_take (i := 2) (oi := ?p3o) (v := ?p3v) ?p3h (by kernel_rfl) (by kernel_rfl) (by kernel_rfl) ?p3q ?p3y hHeld ?p3r
        case p3h => (simp only [List.getElem?_toArray, List.getElem?_cons_succ, List.getElem?_cons_zero]; rfl)
        case p3q => exact fun _ _ _ h => h
        case p3y => (refine Or.inl ⟨by first | kernel_rfl | rfl, ?_⟩; intro w hSw; (try dsimp only at hSw); have d2 := HC2.out _ hSw; have d6 := HX6.out _ hSw; have d7 := HX7.out _ hSw; go_simp <;> (try with_reducible rfl))
        try simp only [Act.put, List.setIfInBounds_toArray, List.set_cons_zero, List.set_cons_succ]
        refine wpAnyH_take (i := 3) (oi := ?p4o) (v := ?p4v) ?p4h (by kernel_rfl) (by kernel_rfl) (by kernel_rfl) ?p4q ?p4y hHeld ?p4r
        case p4h => (simp only [List.getElem?_toArray, List.getElem?_cons_succ, List.getElem?_cons_zero]; rfl)
        case p4q => exact fun _ _ _ h => h
        case p4y => (refine Or.inl ⟨by first | kernel_rfl | rfl, ?_⟩; intro w hSw; (try dsimp only at hSw); have d2 := HC2.out _ hSw; have d6 := HX6.out _ hSw; have d7 := HX7.out _ hSw; go_simp <;> (try with_reducible rfl))
        try simp only [Act.put, List.setIfInBounds_toArray, List.set_cons_zero, List.set_cons_succ]
        refine wpAnyH_take (i := 4) (oi := ?p5o) (v := ?p5v) ?p5h (by kernel_rfl) (by kernel_rfl) (by kernel_rfl) ?p5q ?p5y hHeld ?p5r
        case p5h => (simp only [List.getElem?_toArray, List.getElem?_cons_succ, List.getElem?_cons_zero]; rfl)
        case p5q => exact fun _ _ _ h => h
        case p5y => (refine Or.inl ⟨by first | kernel_rfl | rfl, ?_⟩; intro w hSw; (try dsimp only at hSw); have d2 := HC2.out _ hSw; have d6 := HX6.out _ hSw; have d7 := HX7.out _ hSw; go_simp <;> (try with_reducible rfl))
        try simp only [Act.put, List.setIfInBounds_toArray, List.set_cons_zero, List.set_cons_succ]
        refine wpAnyH_take (i := 5) (oi := ?p6o) (v := ?p6v) ?p6h (by kernel_rfl) (by kernel_rfl) (by kernel_rfl) ?p6q ?p6y hHeld ?p6r
        case p6h => (simp only [List.getElem?_toArray, List.getElem?_cons_succ, List.getElem?_cons_zero]; rfl)
        case p6q => exact fun _ _ _ h => h
        case p6y => (refine Or.inl ⟨by first | kernel_rfl | rfl, ?_⟩; intro w hSw; (try dsimp only at hSw); have d2 := HC2.out _ hSw; have d6 := HX6.out _ hSw; have d7 := HX7.out _ hSw; go_simp <;> (try with_reducible rfl))
        try simp only [Act.put, List.setIfInBounds_toArray, List.set_cons_zero, List.set_cons_succ]
        refine wpAnyH_take (i := 6) (oi := ?p7o) (v := ?p7v) ?p7h (by kernel_rfl) (by kernel_rfl) (by kernel_rfl) ?p7q ?p7y hHeld ?p7r
        case p7h => (simp only [List.getElem?_toArray, List.getElem?_cons_succ, List.getElem?_cons_zero]; rfl)
        case p7q => exact fun _ _ _ h => h
        case p7y => (refine Or.inl ⟨by first | kernel_rfl | rfl, ?_⟩; intro w hSw; (try dsimp only at hSw); have d2 := HC2.out _ hSw; have d6 := HX6.out _ hSw; have d7 := HX7.out _ hSw; go_simp <;> (try with_reducible rfl))
        try simp only [Act.put, List.setIfInBounds_toArray, List.set_cons_zero, List.set_cons_succ]
        refine wpAnyH_take (i := 7) (oi := ?p8o) (v := ?p8v) ?p8h (by kernel_rfl) (by kernel_rfl) (by kernel_rfl) ?p8q ?p8y hHeld ?p8r
        case p8h => (simp only [List.getElem?_toArray, List.getElem?_cons_succ, List.getElem?_cons_zero]; rfl)
        case p8q => exact fun _ _ _ h => h
        case p8y => (refine Or.inl ⟨by first | kernel_rfl | rfl, ?_⟩; intro w hSw; (try dsimp only at hSw); have d2 := HC2.out _ hSw; have d6 := HX6.out _ hSw; have d7 := HX7.out _ hSw; go_simp <;> (try with_reducible rfl))
        try simp only [Act.put, List.setIfInBounds_toArray, List.set_cons_zero, List.set_cons_succ]
        refine wpAnyH_take (i := 8) (oi := ?p9o) (v := ?p9v) ?p9h (by kernel_rfl) (by kernel_rfl) (by kernel_rfl) ?p9q ?p9y hHeld ?p9r
        case p9h => (simp only [List.getElem?_toArray, List.getElem?_cons_succ, List.getElem?_cons_zero]; rfl)
        case p9q => exact fun _ _ _ h => h
        case p9y => (refine Or.inl ⟨by first | kernel_rfl | rfl, ?_⟩; intro w hSw; (try dsimp only at hSw); have d2 := HC2.out _ hSw; have d6 := HX6.out _ hSw; have d7 := HX7.out _ hSw; go_simp <;> (try with_reducible rfl))
        try simp only [Act.put, List.setIfInBounds_toArray, List.set_cons_zero, List.set_cons_succ]
        refine wpAnyH_take (i := 9) (oi := ?p10o) (v := ?p10v) ?p10h (by kernel_rfl) (by kernel_rfl) (by kernel_rfl) ?p10q ?p10y hHeld ?p10r
        case p10h => (simp only [List.getElem?_toArray, List.getElem?_cons_succ, List.getElem?_cons_zero]; rfl)
        case p10q => exact fun _ _ _ h => h
        case p10y => (refine Or.inl ⟨by first | kernel_rfl | rfl, ?_⟩; intro w hSw; (try dsimp only at hSw); have d2 := HC2.out _ hSw; have d6 := HX6.out _ hSw; have d7 := HX7.out _ hSw; go_simp <;> (try with_reducible rfl))
        try simp only [Act.put, List.setIfInBounds_toArray, List.set_cons_zero, List.set_cons_succ]
        refine wpAnyH_take (i := 10) (oi := ?p11o) (v := ?p11v) ?p11h (by kernel_rfl) (by kernel_rfl) (by kernel_rfl) ?p11q ?p11y hHeld ?p11r
        case p11h => (simp only [List.getElem?_toArray, List.getElem?_cons_succ, List.getElem?_cons_zero]; rfl)
        case p11q => exact fun _ _ _ h => h
        case p11y => (refine Or.inl ⟨by first | kernel_rfl | rfl, ?_⟩; intro w hSw; (try dsimp only at hSw); have d2 := HC2.out _ hSw; have d6 := HX6.out _ hSw; have d7 := HX7.out _ hSw; go_simp <;> (try with_reducible rfl))
        try simp only [Act.put, List.setIfInBounds_toArray, List.set_cons_zero, List.set_cons_succ]
        refine wpAnyH_take (i := 11) (oi := ?p12o) (v := ?p12v) ?p12h (by kernel_rfl) (by kernel_rfl) (by kernel_rfl) ?p12q ?p12y hHeld ?p12r
        case p12h => (simp only [List.getElem?_toArray, List.getElem?_cons_succ, List.getElem?_cons_zero]; rfl)
        case p12q => exact fun _ _ _ h => h
        case p12y => (refine Or.inl ⟨by first | kernel_rfl | rfl, ?_⟩; intro w hSw; (try dsimp only at hSw); have d2 := HC2.out _ hSw; have d6 := HX6.out _ hSw; have d7 := HX7.out _ hSw; go_simp <;> (try with_reducible rfl))
        try simp only [Act.put, List.setIfInBounds_toArray, List.set_cons_zero, List.set_cons_succ]
        refine wpAnyH_take (i := 12) (oi := ?p13o) (v := ?p13v) ?p13h (by kernel_rfl) (by kernel_rfl) (by kernel_rfl) ?p13q ?p13y hHeld ?p13r
        case p13h => (simp only [List.getElem?_toArray, List.getElem?_cons_succ, List.getElem?_cons_zero]; rfl)
        case p13q => exact fun _ _ _ h => h
        case p13y => (refine Or.inl ⟨by first | kernel_rfl | rfl, ?_⟩; intro w hSw; (try dsimp only at hSw); have d2 := HC2.out _ hSw; have d6 := HX6.out _ hSw; have d7 := HX7.out _ hSw; go_simp <;> (try with_reducible rfl))
        try simp only [Act.put, List.setIfInBounds_toArray, List.set_cons_zero, List.set_cons_succ]
        refine wpAnyH_take (i := 13) (oi := ?p14o) (v := ?p14v) ?p14h (by kernel_rfl) (by kernel_rfl) (by kernel_rfl) ?p14q ?p14y hHeld ?p14r
        case p14h => (simp only [List.getElem?_toArray, List.getElem?_cons_succ, List.getElem?_cons_zero]; rfl)
        case p14q => exact fun _ _ _ h => h
        case p14y => (refine Or.inl ⟨by first | kernel_rfl | rfl, ?_⟩; intro w hSw; (try dsimp only at hSw); have d2 := HC2.out _ hSw; have d6 := HX6.out _ hSw; have d7 := HX7.out _ hSw; go_simp <;> (try with_reducible rfl))
        try simp only [Act.put, List.setIfInBounds_toArray, List.set_cons_zero, List.set_cons_succ]
        refine wpAnyH_take (i := 14) (oi := ?p15o) (v := ?p15v) ?p15h (by kernel_rfl) (by kernel_rfl) (by kernel_rfl) ?p15q ?p15y hHeld ?p15r
        case p15h => (simp only [List.getElem?_toArray, List.getElem?_cons_succ, List.getElem?_cons_zero]; rfl)
        case p15q => exact fun _ _ _ h => h
        case p15y => (refine Or.inl ⟨by first | kernel_rfl | rfl, ?_⟩; intro w hSw; (try dsimp only at hSw); have d2 := HC2.out _ hSw; have d6 := HX6.out _ hSw; have d7 := HX7.out _ hSw; go_simp <;> (try with_reducible rfl))
        try simp only [Act.put, List.setIfInBounds_toArray, List.set_cons_zero, List.set_cons_succ]
        refine wpAnyH_take (i := 15) (oi := ?p16o) (v := ?p16v) ?p16h (by kernel_rfl) (by kernel_rfl) (by kernel_rfl) ?p16q ?p16y hHeld ?p16r
        case p16h => (simp only [List.getElem?_toArray, List.getElem?_cons_succ, List.getElem?_cons_zero]; rfl)
        case p16q => exact fun _ _ _ h => h
        case p16y => (refine Or.inl ⟨by first | kernel_rfl | rfl, ?_⟩; intro w hSw; (try dsimp only at hSw); have d2 := HC2.out _ hSw; have d6 := HX6.out _ hSw; have d7 := HX7.out _ hSw; go_simp <;> (try with_reducible rfl))
        try simp only [Act.put, List.setIfInBounds_toArray, List.set_cons_zero, List.set_cons_succ]
        refine wpAnyH_take (i := 16) (oi := ?p17o) (v := ?p17v) ?p17h (by kernel_rfl) (by kernel_rfl) (by kernel_rfl) ?p17q ?p17y hHeld ?p17r
        case p17h => (simp only [List.getElem?_toArray, List.getElem?_cons_succ, List.getElem?_cons_zero]; rfl)
        case p17q => exact fun _ _ _ h => h
        case p17y => (refine Or.inl ⟨by first | kernel_rfl | rfl, ?_⟩; intro w hSw; (try dsimp only at hSw); have d2 := HC2.out _ hSw; have d6 := HX6.out _ hSw; have d7 := HX7.out _ hSw; go_simp <;> (try with_reducible rfl))
        try simp only [Act.put, List.setIfInBounds_toArray, List.set_cons_zero, List.set_cons_succ]
        refine wpAnyH_take (i := 17) (oi := ?p18o) (v := ?p18v) ?p18h (by kernel_rfl) (by kernel_rfl) (by kernel_rfl) ?p18q ?p18y hHeld ?p18r
        case p18h => (simp only [List.getElem?_toArray, List.getElem?_cons_succ, List.getElem?_cons_zero]; rfl)
        case p18q => exact fun _ _ _ h => h
        case p18y => (refine Or.inl ⟨by first | kernel_rfl | rfl, ?_⟩; intro w hSw; (try dsimp only at hSw); have d2 := HC2.out _ hSw; have d6 := HX6.out _ hSw; have d7 := HX7.out _ hSw; go_simp <;> (try with_reducible rfl))
        try simp only [Act.put, List.setIfInBounds_toArray, List.set_cons_zero, List.set_cons_succ]
        refine wpAnyH_take (i := 18) (oi := ?p19o) (v := ?p19v) ?p19h (by kernel_rfl) (by kernel_rfl) (by kernel_rfl) ?p19q ?p19y hHeld ?p19r
        case p19h => (simp only [List.getElem?_toArray, List.getElem?_cons_succ, List.getElem?_cons_zero]; rfl)
        case p19q => exact fun _ _ _ h => h
        case p19y => (refine Or.inl ⟨by first | kernel_rfl | rfl, ?_⟩; intro w hSw; (try dsimp only at hSw); have d2 := HC2.out _ hSw; have d6 := HX6.out _ hSw; have d7 := HX7.out _ hSw; go_simp <;> (try with_reducible rfl))
        try simp only [Act.put, List.setIfInBounds_toArray, List.set_cons_zero, List.set_cons_succ]
        refine wpAnyH_take (i := 19) (oi := ?p20o) (v := ?p20v) ?p20h (by kernel_rfl) (by kernel_rfl) (by kernel_rfl) ?p20q ?p20y hHeld ?p20r
        case p20h => (simp only [List.getElem?_toArray, List.getElem?_cons_succ, List.getElem?_cons_zero]; rfl)
        case p20q => exact fun _ _ _ h => h
        case p20y => (refine Or.inl ⟨by first | kernel_rfl | rfl, ?_⟩; intro w hSw; (try dsimp only at hSw); have d2 := HC2.out _ hSw; have d6 := HX6.out _ hSw; have d7 := HX7.out _ hSw; go_simp <;> (try with_reducible rfl))
        try simp only [Act.put, List.setIfInBounds_toArray, List.set_cons_zero, List.set_cons_succ]
        refine wpAnyH_take (i := 20) (oi := ?p21o) (v := ?p21v) ?p21h (by kernel_rfl) (by kernel_rfl) (by kernel_rfl) ?p21q ?p21y hHeld ?p21r
        case p21h => (simp only [List.getElem?_toArray, List.getElem?_cons_succ, List.getElem?_cons_zero]; rfl)
        case p21q => exact fun _ _ _ h => h
        case p21y => (refine Or.inl ⟨by first | kernel_rfl | rfl, ?_⟩; intro w hSw; (try dsimp only at hSw); have d2 := HC2.out _ hSw; have d6 := HX6.out _ hSw; have d7 := HX7.out _ hSw; go_simp <;> (try with_reducible rfl))
        try simp only [Act.put, List.setIfInBounds_toArray, List.set_cons_zero, List.set_cons_succ]
        refine wpAnyH_take (i := 21) (oi := ?p22o) (v := ?p22v) ?p22h (by kernel_rfl) (by kernel_rfl) (by kernel_rfl) ?p22q ?p22y hHeld ?p22r
        case p22h => (simp only [List.getElem?_toArray, List.getElem?_cons_succ, List.getElem?_cons_zero]; rfl)
        case p22q => exact fun _ _ _ h => h
        case p22y => (refine Or.inl ⟨by first | kernel_rfl | rfl, ?_⟩; intro w hSw; (try dsimp only at hSw); have d2 := HC2.out _ hSw; have d6 := HX6.out _ hSw; have d7 := HX7.out _ hSw; go_simp <;> (try with_reducible rfl))
        try simp only [Act.put, List.setIfInBounds_toArray, List.set_cons_zero, List.set_cons_succ]
        refine wpAnyH_take (i := 22) (oi := ?p23o) (v := ?p23v) ?p23h (by kernel_rfl) (by kernel_rfl) (by kernel_rfl) ?p23q ?p23y hHeld ?p23r
        case p23h => (simp only [List.getElem?_toArray, List.getElem?_cons_succ, List.getElem?_cons_zero]; rfl)
        case p23q => exact fun _ _ _ h => h
        case p23y => (refine Or.inl ⟨by first | kernel_rfl | rfl, ?_⟩; intro w hSw; (try dsimp only at hSw); have d2 := HC2.out _ hSw; have d6 := HX6.out _ hSw; have d7 := HX7.out _ hSw; go_simp <;> (try with_reducible rfl))
        try simp only [Act.put, List.setIfInBounds_toArray, List.set_cons_zero, List.set_cons_succ]
        refine wpAnyH_take (i := 23) (oi := ?p24o) (v := ?p24v) ?p24h (by kernel_rfl) (by kernel_rfl) (by kernel_rfl) ?p24q ?p24y hHeld ?p24r
        case p24h => (simp only [List.getElem?_toArray, List.getElem?_cons_succ, List.getElem?_cons_zero]; rfl)
        case p24q => exact fun _ _ _ h => h
        case p24y => (refine Or.inl ⟨by first | kernel_rfl | rfl, ?_⟩; intro w hSw; (try dsimp only at hSw); have d2 := HC2.out _ hSw; have d6 := HX6.out _ hSw; have d7 := HX7.out _ hSw; go_simp <;> (try with_reducible rfl))
        try simp only [Act.put, List.setIfInBounds_toArray, List.set_cons_zero, List.set_cons_succ]
        refine wpAnyH_take (i := 24) (oi := ?p25o) (v := ?p25v) ?p25h (by kernel_rfl) (by kernel_rfl) (by kernel_rfl) ?p25q ?p25y hHeld ?p25r
        case p25h => (simp only [List.getElem?_toArray, List.getElem?_cons_succ, List.getElem?_cons_zero]; rfl)
        case p25q => exact fun _ _ _ h => h
        case p25y => (refine Or.inl ⟨by first | kernel_rfl | rfl, ?_⟩; intro w hSw; (try dsimp only at hSw); have d2 := HC2.out _ hSw; have d6 := HX6.out _ hSw; have d7 := HX7.out _ hSw; go_simp <;> (try with_reducible rfl))
        try simp only [Act.put, List.setIfInBounds_toArray, List.set_cons_zero, List.set_cons_succ]
        refine wpAnyH_take (i := 25) (oi := ?p26o) (v := ?p26v) ?p26h (by kernel_rfl) (by kernel_rfl) (by kernel_rfl) ?p26q ?p26y hHeld ?p26r
        case p26h => (simp only [List.getElem?_toArray, List.getElem?_cons_succ, List.getElem?_cons_zero]; rfl)
        case p26q => exact fun _ _ _ h => h
        case p26y => (refine Or.inl ⟨by first | kernel_rfl | rfl, ?_⟩; intro w hSw; (try dsimp only at hSw); have d2 := HC2.out _ hSw; have d6 := HX6.out _ hSw; have d7 := HX7.out _ hSw; go_simp <;> (try with_reducible rfl))
        try simp only [Act.put, List.setIfInBounds_toArray, List.set_cons_zero, List.set_cons_succ]
        refine wpAnyH_take (i := 26) (oi := ?p27o) (v := ?p27v) ?p27h (by kernel_rfl) (by kernel_rfl) (by kernel_rfl) ?p27q ?p27y hHeld ?p27r
        case p27h => (simp only [List.getElem?_toArray, List.getElem?_cons_succ, List.getElem?_cons_zero]; rfl)
        case p27q => exact fun _ _ _ h => h
        case p27y => (refine Or.inl ⟨by first | kernel_rfl | rfl, ?_⟩; intro w hSw; (try dsimp only at hSw); have d2 := HC2.out _ hSw; have d6 := HX6.out _ hSw; have d7 := HX7.out _ hSw; go_simp <;> (try with_reducible rfl))
        try simp only [Act.put, List.setIfInBounds_toArray, List.set_cons_zero, List.set_cons_succ]
        refine wpAnyH_ready (rs := [27]) (by kernel_rfl) (by simp) ?_
        refine (AllReadyH.cons rfl (fun K hK => ?_) AllReadyH.nil)
        go_simp
        (go_at_call 19; (with_reducible refine (HKA.out _ hHeld).mono ?_); rintro e w7 ⟨rfl, hb7⟩)
        refine hK.out _ _ (bel_next hHeld hb7) (fun hHeld => ?_)
        clear hK K
        try simp only [Act.put, List.setIfInBounds_toArray, List.set_cons_zero, List.set_cons_succ]
        refine wpAnyH_take (i := 28) (oi := ?p28o) (v := ?p28v) ?p28h (by kernel_rfl) (by kernel_rfl) (by kernel_rfl) ?p28q ?p28y hHeld ?p28r
        case p28h => (simp only [List.getElem?_toArray, List.getElem?_cons_succ, List.getElem?_cons_zero]; rfl)
        case p28q => exact fun _ _ _ h => h
        case p28y => (refine Or.inl ⟨by first | kernel_rfl | rfl, ?_⟩; intro w hSw; (try dsimp only at hSw); have d2 := HC2.out _ hSw; have d6 := HX6.out _ hSw; have d7 := HX7.out _ hSw; go_simp <;> (try with_reducible rfl))
        try simp only [Act.put, List.setIfInBounds_toArray, List.set_cons_zero, List.set_cons_succ]
        refine wpAnyH_take (i := 29) (oi := ?p29o) (v := ?p29v) ?p29h (by kernel_rfl) (by kernel_rfl) (by kernel_rfl) ?p29q ?p29y hHeld ?p29r
        case p29h => (simp only [List.getElem?_toArray, List.getElem?_cons_succ, List.getElem?_cons_zero]; rfl)
        case p29q => exact fun _ _ _ h => h
        case p29y => (refine Or.inl ⟨by first | kernel_rfl | rfl, ?_⟩; intro w hSw; (try dsimp only at hSw); have d2 := HC2.out _ hSw; have d6 := HX6.out _ hSw; have d7 := HX7.out _ hSw; go_simp <;> (try with_reducible rfl))
        try simp only [Act.put, List.setIfInBounds_toArray, List.set_cons_zero, List.set_cons_succ]
        refine wpAnyH_done (by kernel_rfl) ?_ _
        have HJ7 := Lib.hid (HJ.out.later hHeld)
        obtain ⟨vc, hrun, hrun2, hcut, hcq⟩ := HJ7.out.at_.cutv HN.out (k := k) (by omega) h400
        obtain ⟨ac, cc, rfl⟩ := hcut.slice
        simp only [List.length_drop] at hrun hrun2 hcut hcq
        have c2 := HJ7.out.at_.c2
        rw [HN.out] at c2
        have f2 := HJ7.out.at_.fz 2
        have HFIN := Lib.hid (HJ7.out.fin HLAT.out HK.out _ hcut hcq)
        clear hcut hcq
        go_wp2
        go_ret
        exact ⟨by rw [HK.out.2]; rfl, HFIN.out⟩
    · obtain rfl : k = n := by omega
      have hlt2 : ¬ (k : Int) < (k : Int) := by omega
      have HK := Lib.hid (show K = knowL S.base (S.L.take k) ∧ trimN V S.L = k from ⟨hK.symm, trimN_eq (by rw [HLN.out]; exact Nat.le_refl _) (fun j hj hjk => by
        have hjz : j < zs.length := by rw [HLAT.out.at_.len]; exact hj
        rw [← HLAT.out.at_.get hjz hj]
        exact HJ.out.no j hjz hjk) (Or.inl HLN.out)⟩)
      have d2 := HC2.out _ (Below.refl _ _)
      clear hlt hK
      go_wp2_with fail
      refine wp_region_held_drew (S := (fun X : World => Below wr.heap.size wr X)) (by kernel_rfl) (Below.refl _ _).drew (fun hHeld => ?_)
      refine wpAnyH_take (i := 0) (oi := ?t1o) (v := ?t1v) ?t1h (by kernel_rfl) (by kernel_rfl) (by kernel_rfl) ?t1q ?t1y hHeld ?t1r
      case t1h => (simp only [List.getElem?_toArray, List.getElem?_cons_zero]; rfl)
      case t1q => exact fun _ _ _ h => h
      case t1y => (refine Or.inl ⟨by first | kernel_rfl | rfl, ?_⟩; intro w hSw; (try dsimp only at hSw); have d2 := HC2.out _ hSw; go_simp <;> (try with_reducible rfl))
      try simp only [Act.put, List.setIfInBounds_toArray, List.set_cons_zero, List.set_cons_succ]
      refine wpAnyH_take (i := 1) (oi := ?t2o) (v := ?t2v) ?t2h (by kernel_rfl) (by kernel_rfl) (by kernel_rfl) ?t2q ?t2y hHeld ?t2r
      case t2h => (simp only [List.getElem?_toArray, List.getElem?_cons_succ, List.getElem?_cons_zero]; rfl)
      case t2q => exact fun _ _ _ h => h
      case t2y => (refine Or.inl ⟨by first | kernel_rfl | rfl, ?_⟩; intro w hSw; (try dsimp only at hSw); have d2 := HC2.out _ hSw; go_simp <;> (try with_reducible rfl))
      try simp only [Act.put, List.setIfInBounds_toArray, List.set_cons_zero, List.set_cons_succ]
      refine wpAnyH_take (i := 2) (oi := ?t3o) (v := ?t3v) ?t3h (by kernel_rfl) (by kernel_rfl) (by kernel_rfl) ?t3q ?t3y hHeld ?t3r
      case t3h => (simp only [List.getElem?_toArray, List.getElem?_cons_succ, List.getElem?_cons_zero]; rfl)
      case t3q => exact fun _ _ _ h => h
      case t3y => (refine Or.inl ⟨by first | kernel_rfl | rfl, ?_⟩; intro w hSw; (try dsimp only at hSw); have d2 := HC2.out _ hSw; go_simp <;> (try with_reducible rfl))
      try simp only [Act.put, List.setIfInBounds_toArray, List.set_cons_zero, List.set_cons_succ]
      refine wpAnyH_take (i := 3) (oi := ?t4o) (v := ?t4v) ?t4h (by kernel_rfl) (by kernel_rfl) (by kernel_rfl) ?t4q ?t4y hHeld ?t4r
      case t4h => (simp only [List.getElem?_toArray, List.getElem?_cons_succ, List.getElem?_cons_zero]; rfl)
      case t4q => exact fun _ _ _ h => h
      case t4y => (refine Or.inl ⟨by first | kernel_rfl | rfl, ?_⟩; intro w hSw; (try dsimp only at hSw); have d2 := HC2.out _ hSw; go_simp <;> (try with_reducible rfl))
      try simp only [Act.put, List.setIfInBounds_toArray, List.set_cons_zero, List.set_cons_succ]
      refine wpAnyH_take (i := 4) (oi := ?t5o) (v := ?t5v) ?t5h (by kernel_rfl) (by kernel_rfl) (by kernel_rfl) ?t5q ?t5y hHeld ?t5r
      case t5h => (simp only [List.getElem?_toArray, List.getElem?_cons_succ, List.getElem?_cons_zero]; rfl)
      case t5q => exact fun _ _ _ h => h
      case t5y => (refine Or.inl ⟨by first | kernel_rfl | rfl, ?_⟩; intro w hSw; (try dsimp only at hSw); have d2 := HC2.out _ hSw; go_simp <;> (try with_reducible rfl))
      try simp only [Act.put, List.setIfInBounds_toArray, List.set_cons_zero, List.set_cons_succ]
      refine wpAnyH_take (i := 5) (oi := ?t6o) (v := ?t6v) ?t6h (by kernel_rfl) (by kernel_rfl) (by kernel_rfl) ?t6q ?t6y hHeld ?t6r
      case t6h => (simp only [List.getElem?_toArray, List.getElem?_cons_succ, List.getElem?_cons_zero]; rfl)
      case t6q => exact fun _ _ _ h => h
      case t6y => (refine Or.inl ⟨by first | kernel_rfl | rfl, ?_⟩; intro w hSw; (try dsimp only at hSw); have d2 := HC2.out _ hSw; go_simp <;> (try with_reducible rfl))
      try simp only [Act.put, List.setIfInBounds_toArray, List.set_cons_zero, List.set_cons_succ]
      refine wpAnyH_take (i := 6) (oi := ?t7o) (v := ?t7v) ?t7h (by kernel_rfl) (by kernel_rfl) (by kernel_rfl) ?t7q ?t7y hHeld ?t7r
      case t7h => (simp only [List.getElem?_toArray, List.getElem?_cons_succ, List.getElem?_cons_zero]; rfl)
      case t7q => exact fun _ _ _ h => h
      case t7y => (refine Or.inl ⟨by first | kernel_rfl | rfl, ?_⟩; intro w hSw; (try dsimp only at hSw); have d2 := HC2.out _ hSw; go_simp <;> (try with_reducible rfl))
      try simp only [Act.put, List.setIfInBounds_toArray, List.set_cons_zero, List.set_cons_succ]
      refine wpAnyH_take (i := 7) (oi := ?t8o) (v := ?t8v) ?t8h (by kernel_rfl) (by kernel_rfl) (by kernel_rfl) ?t8q ?t8y hHeld ?t8r
      case t8h => (simp only [List.getElem?_toArray, List.getElem?_cons_succ, List.getElem?_cons_zero]; rfl)
      case t8q => exact fun _ _ _ h => h
      case t8y => (refine Or.inl ⟨by first | kernel_rfl | rfl, ?_⟩; intro w hSw; (try dsimp only at hSw); have d2 := HC2.out _ hSw; go_simp <;> (try with_reducible rfl))
      try simp only [Act.put, List.setIfInBounds_toArray, List.set_cons_zero, List.set_cons_succ]
      refine wpAnyH_take (i := 8) (oi := ?t9o) (v := undef) ?t9h (by kernel_rfl) (by kernel_rfl) (by kernel_rfl) ?t9q ?t9y hHeld ?t9r
      case t9h => (simp only [List.getElem?_toArray, List.getElem?_cons_succ, List.getElem?_cons_zero]; rfl)
      case t9q => exact fun _ _ _ h => h
      case t9y => exact Or.inr ⟨by first | kernel_rfl | rfl, rfl⟩
      try simp only [Act.put, List.setIfInBounds_toArray, List.set_cons_zero, List.set_cons_succ]
      refine wpAnyH_take (i := 9) (oi := ?t10o) (v := undef) ?t10h (by kernel_rfl) (by kernel_rfl) (by kernel_rfl) ?t10q ?t10y hHeld ?t10r
      case t10h => (simp only [List.getElem?_toArray, List.getElem?_cons_succ, List.getElem?_cons_zero]; rfl)
      case t10q => exact fun _ _ _ h => h
      case t10y => exact Or.inr ⟨by first | kernel_rfl | rfl, rfl⟩
      try simp only [Act.put, List.setIfInBounds_toArray, List.set_cons_zero, List.set_cons_succ]
      refine wpAnyH_take (i := 10) (oi := ?t11o) (v := undef) ?t11h (by kernel_rfl) (by kernel_rfl) (by kernel_rfl) ?t11q ?t11y hHeld ?t11r
      case t11h => (simp only [List.getElem?_toArray, List.getElem?_cons_succ, List.getElem?_cons_zero]; rfl)
      case t11q => exact fun _ _ _ h => h
      case t11y => exact Or.inr ⟨by first | kernel_rfl | rfl, rfl⟩
      try simp only [Act.put, List.setIfInBounds_toArray, List.set_cons_zero, List.set_cons_succ]
      refine wpAnyH_take (i := 11) (oi := ?t12o) (v := undef) ?t12h (by kernel_rfl) (by kernel_rfl) (by kernel_rfl) ?t12q ?t12y hHeld ?t12r
      case t12h => (simp only [List.getElem?_toArray, List.getElem?_cons_succ, List.getElem?_cons_zero]; rfl)
      case t12q => exact fun _ _ _ h => h
      case t12y => exact Or.inr ⟨by first | kernel_rfl | rfl, rfl⟩
      try simp only [Act.put, List.setIfInBounds_toArray, List.set_cons_zero, List.set_cons_succ]
      refine wpAnyH_take (i := 12) (oi := ?t13o) (v := undef) ?t13h (by kernel_rfl) (by kernel_rfl) (by kernel_rfl) ?t13q ?t13y hHeld ?t13r
      case t13h => (simp only [List.getElem?_toArray, List.getElem?_cons_succ, List.getElem?_cons_zero]; rfl)
      case t13q => exact fun _ _ _ h => h
      case t13y => exact Or.inr ⟨by first | kernel_rfl | rfl, rfl⟩
      try simp only [Act.put, List.setIfInBounds_toArray, List.set_cons_zero, List.set_cons_succ]
      refine wpAnyH_take (i := 13) (oi := ?t14o) (v := undef) ?t14h (by kernel_rfl) (by kernel_rfl) (by kernel_rfl) ?t14q ?t14y hHeld ?t14r
      case t14h => (simp only [List.getElem?_toArray, List.getElem?_cons_succ, List.getElem?_cons_zero]; rfl)
      case t14q => exact fun _ _ _ h => h
      case t14y => exact Or.inr ⟨by first | kernel_rfl | rfl, rfl⟩
      try simp only [Act.put, List.setIfInBounds_toArray, List.set_cons_zero, List.set_cons_succ]
      refine wpAnyH_take (i := 14) (oi := ?t15o) (v := undef) ?t15h (by kernel_rfl) (by kernel_rfl) (by kernel_rfl) ?t15q ?t15y hHeld ?t15r
      case t15h => (simp only [List.getElem?_toArray, List.getElem?_cons_succ, List.getElem?_cons_zero]; rfl)
      case t15q => exact fun _ _ _ h => h
      case t15y => exact Or.inr ⟨by first | kernel_rfl | rfl, rfl⟩
      try simp only [Act.put, List.setIfInBounds_toArray, List.set_cons_zero, List.set_cons_succ]
      refine wpAnyH_take (i := 15) (oi := ?t16o) (v := undef) ?t16h (by kernel_rfl) (by kernel_rfl) (by kernel_rfl) ?t16q ?t16y hHeld ?t16r
      case t16h => (simp only [List.getElem?_toArray, List.getElem?_cons_succ, List.getElem?_cons_zero]; rfl)
      case t16q => exact fun _ _ _ h => h
      case t16y => exact Or.inr ⟨by first | kernel_rfl | rfl, rfl⟩
      try simp only [Act.put, List.setIfInBounds_toArray, List.set_cons_zero, List.set_cons_succ]
      refine wpAnyH_take (i := 16) (oi := ?t17o) (v := undef) ?t17h (by kernel_rfl) (by kernel_rfl) (by kernel_rfl) ?t17q ?t17y hHeld ?t17r
      case t17h => (simp only [List.getElem?_toArray, List.getElem?_cons_succ, List.getElem?_cons_zero]; rfl)
      case t17q => exact fun _ _ _ h => h
      case t17y => exact Or.inr ⟨by first | kernel_rfl | rfl, rfl⟩
      try simp only [Act.put, List.setIfInBounds_toArray, List.set_cons_zero, List.set_cons_succ]
      refine wpAnyH_take (i := 17) (oi := ?t18o) (v := undef) ?t18h (by kernel_rfl) (by kernel_rfl) (by kernel_rfl) ?t18q ?t18y hHeld ?t18r
      case t18h => (simp only [List.getElem?_toArray, List.getElem?_cons_succ, List.getElem?_cons_zero]; rfl)
      case t18q => exact fun _ _ _ h => h
      case t18y => exact Or.inr ⟨by first | kernel_rfl | rfl, rfl⟩
      try simp only [Act.put, List.setIfInBounds_toArray, List.set_cons_zero, List.set_cons_succ]
      refine wpAnyH_take (i := 18) (oi := ?t19o) (v := undef) ?t19h (by kernel_rfl) (by kernel_rfl) (by kernel_rfl) ?t19q ?t19y hHeld ?t19r
      case t19h => (simp only [List.getElem?_toArray, List.getElem?_cons_succ, List.getElem?_cons_zero]; rfl)
      case t19q => exact fun _ _ _ h => h
      case t19y => exact Or.inr ⟨by first | kernel_rfl | rfl, rfl⟩
      try simp only [Act.put, List.setIfInBounds_toArray, List.set_cons_zero, List.set_cons_succ]
      refine wpAnyH_take (i := 19) (oi := ?t20o) (v := undef) ?t20h (by kernel_rfl) (by kernel_rfl) (by kernel_rfl) ?t20q ?t20y hHeld ?t20r
      case t20h => (simp only [List.getElem?_toArray, List.getElem?_cons_succ, List.getElem?_cons_zero]; rfl)
      case t20q => exact fun _ _ _ h => h
      case t20y => exact Or.inr ⟨by first | kernel_rfl | rfl, rfl⟩
      try simp only [Act.put, List.setIfInBounds_toArray, List.set_cons_zero, List.set_cons_succ]
      refine wpAnyH_take (i := 20) (oi := ?t21o) (v := undef) ?t21h (by kernel_rfl) (by kernel_rfl) (by kernel_rfl) ?t21q ?t21y hHeld ?t21r
      case t21h => (simp only [List.getElem?_toArray, List.getElem?_cons_succ, List.getElem?_cons_zero]; rfl)
      case t21q => exact fun _ _ _ h => h
      case t21y => exact Or.inr ⟨by first | kernel_rfl | rfl, rfl⟩
      try simp only [Act.put, List.setIfInBounds_toArray, List.set_cons_zero, List.set_cons_succ]
      refine wpAnyH_take (i := 21) (oi := ?t22o) (v := undef) ?t22h (by kernel_rfl) (by kernel_rfl) (by kernel_rfl) ?t22q ?t22y hHeld ?t22r
      case t22h => (simp only [List.getElem?_toArray, List.getElem?_cons_succ, List.getElem?_cons_zero]; rfl)
      case t22q => exact fun _ _ _ h => h
      case t22y => exact Or.inr ⟨by first | kernel_rfl | rfl, rfl⟩
      try simp only [Act.put, List.setIfInBounds_toArray, List.set_cons_zero, List.set_cons_succ]
      refine wpAnyH_take (i := 22) (oi := ?t23o) (v := undef) ?t23h (by kernel_rfl) (by kernel_rfl) (by kernel_rfl) ?t23q ?t23y hHeld ?t23r
      case t23h => (simp only [List.getElem?_toArray, List.getElem?_cons_succ, List.getElem?_cons_zero]; rfl)
      case t23q => exact fun _ _ _ h => h
      case t23y => exact Or.inr ⟨by first | kernel_rfl | rfl, rfl⟩
      try simp only [Act.put, List.setIfInBounds_toArray, List.set_cons_zero, List.set_cons_succ]
      refine wpAnyH_take (i := 23) (oi := ?t24o) (v := undef) ?t24h (by kernel_rfl) (by kernel_rfl) (by kernel_rfl) ?t24q ?t24y hHeld ?t24r
      case t24h => (simp only [List.getElem?_toArray, List.getElem?_cons_succ, List.getElem?_cons_zero]; rfl)
      case t24q => exact fun _ _ _ h => h
      case t24y => exact Or.inr ⟨by first | kernel_rfl | rfl, rfl⟩
      try simp only [Act.put, List.setIfInBounds_toArray, List.set_cons_zero, List.set_cons_succ]
      refine wpAnyH_take (i := 24) (oi := ?t25o) (v := undef) ?t25h (by kernel_rfl) (by kernel_rfl) (by kernel_rfl) ?t25q ?t25y hHeld ?t25r
      case t25h => (simp only [List.getElem?_toArray, List.getElem?_cons_succ, List.getElem?_cons_zero]; rfl)
      case t25q => exact fun _ _ _ h => h
      case t25y => exact Or.inr ⟨by first | kernel_rfl | rfl, rfl⟩
      try simp only [Act.put, List.setIfInBounds_toArray, List.set_cons_zero, List.set_cons_succ]
      refine wpAnyH_take (i := 25) (oi := ?t26o) (v := undef) ?t26h (by kernel_rfl) (by kernel_rfl) (by kernel_rfl) ?t26q ?t26y hHeld ?t26r
      case t26h => (simp only [List.getElem?_toArray, List.getElem?_cons_succ, List.getElem?_cons_zero]; rfl)
      case t26q => exact fun _ _ _ h => h
      case t26y => exact Or.inr ⟨by first | kernel_rfl | rfl, rfl⟩
      try simp only [Act.put, List.setIfInBounds_toArray, List.set_cons_zero, List.set_cons_succ]
      refine wpAnyH_take (i := 26) (oi := ?t27o) (v := undef) ?t27h (by kernel_rfl) (by kernel_rfl) (by kernel_rfl) ?t27q ?t27y hHeld ?t27r
      case t27h => (simp only [List.getElem?_toArray, List.getElem?_cons_succ, List.getElem?_cons_zero]; rfl)
      case t27q => exact fun _ _ _ h => h
      case t27y => exact Or.inr ⟨by first | kernel_rfl | rfl, rfl⟩
      try simp only [Act.put, List.setIfInBounds_toArray, List.set_cons_zero, List.set_cons_succ]
      refine wpAnyH_take (i := 27) (oi := ?t28o) (v := undef) ?t28h (by kernel_rfl) (by kernel_rfl) (by kernel_rfl) ?t28q ?t28y hHeld ?t28r
      case t28h => (simp only [List.getElem?_toArray, List.getElem?_cons_succ, List.getElem?_cons_zero]; rfl)
      case t28q => exact fun _ _ _ h => h
      case t28y => exact Or.inr ⟨by first | kernel_rfl | rfl, rfl⟩
      try simp only [Act.put, List.setIfInBounds_toArray, List.set_cons_zero, List.set_cons_succ]
      refine wpAnyH_take (i := 28) (oi := ?t29o) (v := undef) ?t29h (by kernel_rfl) (by kernel_rfl) (by kernel_rfl) ?t29q ?t29y hHeld ?t29r
      case t29h => (simp only [List.getElem?_toArray, List.getElem?_cons_succ, List.getElem?_cons_zero]; rfl)
      case t29q => exact fun _ _ _ h => h
      case t29y => exact Or.inr ⟨by first | kernel_rfl | rfl, rfl⟩
      try simp only [Act.put, List.setIfInBounds_toArray, List.set_cons_zero, List.set_cons_succ]
      refine wpAnyH_take (i := 29) (oi := ?t30o) (v := ?t30v) ?t30h (by kernel_rfl) (by kernel_rfl) (by kernel_rfl) ?t30q ?t30y hHeld ?t30r
      case t30h => (simp only [List.getElem?_toArray, List.getElem?_cons_succ, List.getElem?_cons_zero]; rfl)
      case t30q => exact fun _ _ _ h => h
      case t30y => (refine Or.inl ⟨by first | kernel_rfl | rfl, ?_⟩; intro w hSw; (try dsimp only at hSw); have d2 := HC2.out _ hSw; go_simp <;> (try with_reducible rfl))
      try simp only [Act.put, List.setIfInBounds_toArray, List.set_cons_zero, List.set_cons_succ]
      refine wpAnyH_done (by kernel_rfl) ?_ _
      have HJ7 := Lib.hid (HJ.out.later hHeld)
      obtain ⟨vc, hrun, hrun2, hcut, hcq⟩ := HJ7.out.at_.cutv HN.out (k := k) (by omega) h400
      obtain ⟨ac, cc, rfl⟩ := hcut.slice
      simp only [List.length_drop] at hrun hrun2 hcut hcq
      have c2 := HJ7.out.at_.c2
      rw [HN.out] at c2
      have f2 := HJ7.out.at_.fz 2
      have HFIN := Lib.hid (HJ7.out.fin HLAT.out HK.out _ hcut hcq)
      clear hcut hcq
      go_wp2
      go_ret
      exact ⟨by rw [HK.out.2]; rfl, HFIN.out⟩
end Go.Proofs.Ythbajlfkgbfkgaa.Og

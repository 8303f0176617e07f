/- The document's buffer as it lies in memory; New, find, due. -/
import Derived.Test.YthifmfgnblecbaaCbDoc
import Derived.Test.YthifmfgnblecbaaCbSure
import Derived.Test.YthifmfgnblecbaaOgRef
import Derived.Test.YthifmfgnblecbaaMarkC
set_option maxRecDepth 200000
set_option linter.unusedSimpArgs false
set_option linter.unusedVariables false
namespace Go.Proofs.Ythifmfgnblecbaa.Og.Cb
open Go.RowKit Go.Maps Go.Proofs.Ythifmfgnblecbaa.Vi Go.Proofs.Ythifmfgnblecbaa.Mk

/-- The place of the record of that name. -/
def idxN (s q : Int) : List Rec → Nat
  | [] => 0
  | r :: t => if keyB s q r = true then 0 else idxN s q t + 1
theorem idx_eq {s q : Int} : ∀ {l : List Rec} {k : Nat} (hk : k < l.length), (∀ i (hi : i < l.length), i < k → keyB s q l[i] = false) → keyB s q l[k] = true → idxN s q l = k
  | [], k, hk, _, _ => by simp at hk
  | a :: t, 0, _, _, h => if_pos h
  | a :: t, k + 1, hk, hb, h => by
    have h0 := hb 0 (by simp) (by omega)
    have h1 : ¬ keyB s q a = true := by rw [show keyB s q a = false from h0]; simp
    unfold idxN
    rw [if_neg h1, idx_eq (l := t) (k := k) (by simpa using hk) (fun i hi hik => hb (i + 1) (by simpa using hi) (by omega)) h]
theorem idx_at {s q : Int} : ∀ {l : List Rec}, hasB l s q = true → ∃ h : idxN s q l < l.length, l[idxN s q l].st.s = s ∧ l[idxN s q l].st.q = q
  | [], h => by cases h
  | a :: t, h => by
    by_cases e : keyB s q a = true
    · have h1 : idxN s q (a :: t) = 0 := if_pos e
      refine ⟨by rw [h1]; simp, ?_⟩
      simp only [h1, List.getElem_cons_zero]
      exact keyB_iff.1 e
    · have h1 : idxN s q (a :: t) = idxN s q t + 1 := if_neg e
      have h2 : hasB t s q = true := by
        obtain ⟨r, hr, hk⟩ := hasB_iff.1 h
        rcases List.mem_cons.1 hr with e2 | e2
        · rw [e2] at hk; exact absurd (keyB_iff.2 hk) e
        · exact hasB_iff.2 ⟨r, e2, hk⟩
      obtain ⟨h3, h4⟩ := idx_at h2
      refine ⟨by rw [h1, List.length_cons]; omega, ?_⟩
      simp only [h1, List.getElem_cons_succ]
      exact h4
/-- Without the record at its place. -/
theorem del_idx {s q : Int} : ∀ {l : List Rec}, Apart l → hasB l s q = true → l.take (idxN s q l) ++ l.drop (idxN s q l + 1) = delL l s q
  | [], _, h => by cases h
  | a :: t, hA, h => by
    by_cases e : keyB s q a = true
    · have h1 : idxN s q (a :: t) = 0 := if_pos e
      have h2 := keyB_iff.1 e
      have h3 := filter_all (l := t) (s := s) (q := q) fun x hx k => hA.1 x hx ⟨h2.1.trans k.1.symm, h2.2.trans k.2.symm⟩
      rw [h1]
      unfold delL at h3 ⊢
      rw [List.filter_cons, e]
      simp only [Bool.not_true, Bool.false_eq_true, if_false, h3]
      simp
    · have h1 : idxN s q (a :: t) = idxN s q t + 1 := if_neg e
      have h2 : hasB t s q = true := by
        obtain ⟨r, hr, hk⟩ := hasB_iff.1 h
        rcases List.mem_cons.1 hr with e2 | e2
        · rw [e2] at hk; exact absurd (keyB_iff.2 hk) e
        · exact hasB_iff.2 ⟨r, e2, hk⟩
      have h3 := del_idx hA.2 h2
      rw [h1]
      unfold delL at h3 ⊢
      rw [List.filter_cons, Bool.eq_false_iff.2 e]
      simp only [Bool.not_false, if_true, List.take_succ_cons, List.drop_succ_cons, List.cons_append, h3]
def findI (l : List Rec) (s q : Int) : Int := if hasB l s q = true then ((idxN s q l : Nat) : Int) else -1
/-- The document's buffer at block b. -/
structure EbAt (w : World) (B b : Nat) (ov v : Value) (zs : List Rd) (S : CS) (F : Nat → Prop) : Prop where
  obj : w.heap[b]? = some (.cells #[.int .i64 S.room, ov, v] 45 (0, 0))
  ns : Ns w ov S.out
  ovF : S.out ≠ [] → ∀ q, ov.ownBlock = some q → F q ∧ q ≠ b ∧ v.ownBlock ≠ some q
  row : ORow w B v zs
  vF : ∀ q, v.ownBlock = some q → F q ∧ q ≠ b
  deps : ∀ x ∈ zs, Ns w x.dv x.r.d ∧ (x.r.d ≠ [] → ∀ q, x.dv.ownBlock = some q → q < B)
  fp : ∀ q, F q → B ≤ q ∧ q < w.heap.size
  bF : F b
  rs : zs.map Rd.r = S.L
  good : CGood S
section
variable {w w' : World} {B b : Nat} {ov v : Value} {zs : List Rd} {S : CS} {F G : Nat → Prop}
theorem EbAt.lt (h : EbAt w B b ov v zs S F) : b < w.heap.size := (Array.getElem?_eq_some_iff.1 h.obj).1
theorem EbAt.c0 (h : EbAt w B b ov v zs S F) : w.cell? ⟨b, 0, none⟩ = some (.int .i64 S.room) := by rw [Joins.cell_of_block h.obj]; rfl
theorem EbAt.c1 (h : EbAt w B b ov v zs S F) : w.cell? ⟨b, 1, none⟩ = some ov := by rw [Joins.cell_of_block h.obj]; rfl
theorem EbAt.c2 (h : EbAt w B b ov v zs S F) : w.cell? ⟨b, 2, none⟩ = some v := by rw [Joins.cell_of_block h.obj]; rfl
theorem EbAt.fz (h : EbAt w B b ov v zs S F) (i : Nat) : w.frozen? ⟨b, i, none⟩ = false := Joins.unfrozen_of_block h.obj _
theorem EbAt.len (h : EbAt w B b ov v zs S F) : zs.length = S.L.length := by rw [← h.rs, List.length_map]
theorem EbAt.get (h : EbAt w B b ov v zs S F) {k : Nat} (hz : k < zs.length) (hl : k < S.L.length) : zs[k].r = S.L[k] := by
  have : (zs.map Rd.r)[k]'(by rw [List.length_map]; exact hz) = S.L[k] := by simp only [h.rs]
  rw [← this, List.getElem_map]
theorem EbAt.off (h : EbAt w B b ov v zs S F) (k : FrF G w w') (hd : ∀ q, F q → ¬ G q) (hB : ∀ q, G q → B ≤ q) : EbAt w' B b ov v zs S F := by
  have kk : ∀ q, F q → w'.heap[q]? = w.heap[q]? := fun q hq => k.block q (h.fp q hq).2 (hd q hq)
  refine ⟨(kk b h.bF).trans h.obj, Ns.off h.ns k.size fun hn q hq _ => kk q (h.ovF hn q hq).1, h.ovF, h.row.other fun g hg => kk g (h.vF g hg).1, h.vF, fun x hx => ?_, fun q hq => ⟨(h.fp q hq).1, Nat.lt_of_lt_of_le (h.fp q hq).2 k.size⟩, h.bF, h.rs, h.good⟩
  obtain ⟨h1, h2⟩ := h.deps x hx
  exact ⟨Ns.off h1 k.size fun hn q hq hl => k.block q hl fun e => by have := h2 hn q hq; have := hB q e; omega, h2⟩
theorem EbAt.later (h : EbAt w B b ov v zs S F) (k : Below w.heap.size w w') : EbAt w' B b ov v zs S F := h.off (G := fun _ => False) (FrF.of k) (fun _ _ => id) fun _ e => e.elim
theorem EbAt.wide (h : EbAt w B b ov v zs S F) (hF : ∀ q, F q → G q) (fp : ∀ q, G q → B ≤ q ∧ q < w.heap.size) : EbAt w B b ov v zs S G :=
  ⟨h.obj, h.ns, fun hn q hq => ⟨hF q (h.ovF hn q hq).1, (h.ovF hn q hq).2⟩, h.row, fun q hq => ⟨hF q (h.vF q hq).1, (h.vF q hq).2⟩, h.deps, fp, hF b h.bF, h.rs, h.good⟩
end
def ENewDone (room : Int) (l : List Int) (w : World) (e : Ending) (w' : World) : Prop := ∃ b ov, e = .returned (.pointer (some ⟨b, 0, none⟩)) ∧ w.heap.size ≤ b ∧ (∀ B, B ≤ w.heap.size → EbAt w' B b ov (.slice none 0 0) [] (newC room l) (fun q => w.heap.size ≤ q ∧ q < w'.heap.size)) ∧ Below w.heap.size w w'
set_option maxHeartbeats 1000000 in
theorem enew_is (room : Int) (v : Value) (l : List Int) (w : World) (h : Ns w v l) : Calls Try.prog 11 #[.int .i64 room, v] w (ENewDone room l w) := by
  obtain ⟨a, c, rfl⟩ := h.slice
  have kp := rplainF_is _ l w h
  obtain ⟨z, hz⟩ : ∃ z, min (max room 0) 400 = z := ⟨_, rfl⟩
  have HZ := Lib.hid hz
  have HG := Lib.hid (newC_good room l)
  have HNC := Lib.hid (show newC room l = ⟨z, plainL l, []⟩ from by unfold newC; rw [hz])
  have fin : ∀ (w2 : World) (a2 : Option Addr) (c2 : Nat), Ns w2 (.slice a2 (plainL l).length c2) (plainL l) → Below w.heap.size w w2 → (∀ q, (Value.slice a2 (plainL l).length c2).ownBlock = some q → w.heap.size ≤ q ∧ q < w2.heap.size) →
      ENewDone room l w (.returned (.pointer (some ⟨w2.heap.size, 0, none⟩))) (w2.alloc (.cells #[.int .i64 z, .slice a2 (plainL l).length c2, .slice none 0 0] 45)) := fun w2 a2 c2 hn hb hf => by
    have hs2 := hb.size
    have hg := HG.out
    rw [HNC.out] at hg
    refine ⟨w2.heap.size, .slice a2 (plainL l).length c2, rfl, hs2, fun B hB => ?_, bel_new hb _⟩
    rw [HNC.out]
    refine ⟨new_block (Below.refl _ _), Ns.later hn ((Below.refl _ _).alloc (Nat.le_refl _) _), fun _ q hq => ?_, ORow.nil _ _, fun q hq => (by cases hq), fun x hx => (by cases hx), fun q hq => ⟨by omega, hq.2⟩, ⟨hs2, by simp⟩, rfl, hg⟩
    have := hf q hq
    exact ⟨⟨this.1, by simp; omega⟩, by omega, fun e => by cases e⟩
  have FIN := Lib.hid fin
  have hcase : (room < 0 ∧ z = 0) ∨ (¬ room < 0 ∧ 400 < room ∧ z = 400) ∨ (¬ room < 0 ∧ ¬ 400 < room ∧ z = room) := by omega
  clear h fin hz
  rcases hcase with ⟨g1, rfl⟩ | ⟨g1, g2, rfl⟩ | ⟨g1, g2, rfl⟩
  all_goals
    go_enter Try.func11, Try.ntmps11
    go_wp2_with (go_at_call 31; (with_reducible refine kp.mono ?_); rintro e w2 ⟨v2, rfl, hn2, hb2, hf2⟩; (obtain ⟨a2, c2, rfl⟩ := hn2.slice); (have HD := Lib.hid (FIN.out w2 a2 c2 hn2 hb2 hf2)); clear hn2 hb2 hf2)
    go_ret
    exact HD.out
set_option maxHeartbeats 2000000 in
theorem find_is {w : World} {B b : Nat} {ov v : Value} {zs : List Rd} {S : CS} {F : Nat → Prop} (h : EbAt w B b ov v zs S F) (s q : Int) : Calls Try.prog 36 #[.pointer (some ⟨b, 0, none⟩), .int .i64 s, .int .i64 q] w fun e w' => e = .returned (.int .i64 (findI S.L s q)) ∧ w = w' := by
  have c2 := h.c2
  obtain ⟨a2, cc2, rfl⟩ := h.row.slice
  have HE := Lib.hid h
  obtain ⟨n, hn⟩ : ∃ n, zs.length = n := ⟨_, rfl⟩
  rw [hn] at c2
  have HN := Lib.hid hn
  have HL := Lib.hid (show S.L.length = n by rw [← h.len]; exact hn)
  have hn4 : n ≤ 408 := by have h1 := h.good.l408; rw [HL.out] at h1; exact h1
  clear h hn
  go_enter Try.func36, Try.ntmps36
  go_wp2
  go_loopw [7] (fun iv wr => ∃ k : Nat, k ≤ n ∧ iv = .int .i64 (k : Int) ∧ w = wr ∧ Hid (∀ i (hi : i < S.L.length), i < k → keyB s q S.L[i] = false)) (fun iv _ => n - (intOf iv).toNat)
  case atStart => exact ⟨0, by omega, rfl, by simp, Lib.hid (fun i hi h => by omega)⟩
  case round =>
    obtain ⟨k, hk, rfl, rfl, HB⟩ := hrel
    by_cases hlt : k < n
    · have hlt2 : (k : Int) < (n : Int) := by omega
      have hkz : k < zs.length := by rw [HN.out]; exact hlt
      have hkl : k < S.L.length := by rw [HL.out]; exact hlt
      have hzr := HE.out.get hkz hkl
      obtain ⟨g, off, rfl, -, -, hgl, hcs⟩ := HE.out.row.cell (by omega)
      have hr9 := hcs k hkz
      obtain ⟨z, hz⟩ : ∃ z, zs[k] = z := ⟨_, rfl⟩
      rw [hz] at hr9 hzr
      obtain ⟨⟨zk, zss, zt, zv, ztier, ⟨zc, zst, zq⟩, zd⟩, za, zcc⟩ := z
      obtain ⟨x0, x1, x2, x3, x4, x5, x6, x7, x8⟩ := hr9
      dsimp only at x0 x1 x2 x3 x4 x5 x6 x7 x8 hzr
      have HZ := Lib.hid hzr
      clear hcs hz hzr
      have HHIT := Lib.hid (fun (e : zst = s ∧ zq = q) => (show findI S.L s q = (k : Int) from by
        have h1 : keyB s q S.L[k] = true := by rw [← HZ.out]; exact keyB_iff.2 e
        have h2 : hasB S.L s q = true := hasB_iff.2 ⟨S.L[k], List.getElem_mem hkl, keyB_iff.1 h1⟩
        unfold findI
        rw [if_pos h2, idx_eq hkl HB.out h1]))
      have HMISS := Lib.hid (fun (e : ¬ (zst = s ∧ zq = q)) => (show ∀ i (hi : i < S.L.length), i < k + 1 → keyB s q S.L[i] = false from fun i hi hik => by
        by_cases c : i = k
        · subst c
          rw [← HZ.out, Bool.eq_false_iff, Ne, keyB_iff]
          exact e
        · exact HB.out i hi (by omega)))
      by_cases h1 : zst = s
      · have e1 : (zst == s) = true := by simpa using h1
        by_cases h2 : zq = q
        · have e2 : (zq == q) = true := by simpa using h2
          have HX := Lib.hid (HHIT.out ⟨h1, h2⟩)
          clear h1 h2
          go_wp2
          go_ret
          exact ⟨(by rw [HX.out]; rfl), rfl⟩
        · have e2 : (zq == q) = false := by simpa using h2
          have HX := Lib.hid (HMISS.out fun e => h2 e.2)
          clear h1 h2
          go_wp2
          go_roundw
          case rel => exact ⟨k + 1, by omega, by go_num, (by simp), HX⟩
          case measure => simp [intOf]; omega
      · have e1 : (zst == s) = false := by simpa using h1
        have HX := Lib.hid (HMISS.out fun e => h1 e.1)
        clear h1
        go_wp2
        go_roundw
        case rel => exact ⟨k + 1, by omega, by go_num, (by simp), HX⟩
        case measure => simp [intOf]; omega
    · obtain rfl : k = n := by omega
      have hlt2 : ¬ (k : Int) < (k : Int) := by omega
      have HX := Lib.hid (show findI S.L s q = -1 from by
        unfold findI
        rw [if_neg]
        intro h1
        obtain ⟨h2, h3⟩ := idx_at h1
        have h4 := HB.out _ h2 (by have h5 := HL.out; omega)
        rw [keyB_iff.2 h3] at h4
        cases h4)
      go_wp2
      go_ret
      exact ⟨(by rw [HX.out]; rfl), rfl⟩
set_option maxHeartbeats 4000000 in
theorem edue_is {w : World} {B b : Nat} {ov v : Value} {zs : List Rd} {S : CS} {F : Nat → Prop} (h : EbAt w B b ov v zs S F) (x : Rd) (hN : Ns w x.dv x.r.d) : Calls Try.prog 37 #[.pointer (some ⟨b, 0, none⟩), recV x.r x.dv] w fun e w' => e = .returned (.bool (dueB S x.r)) ∧ Below w.heap.size w w' := by
  have kc := fun (W : World) (hb : Below w.heap.size w W) => rcovers_is ov x.dv S.out x.r.d W (Ns.later h.ns hb) (Ns.later hN hb)
  have ka := fun (W : World) (hb : Below w.heap.size w W) => rat_is ov S.out x.r.st.s W (Ns.later h.ns hb)
  have hc1 := h.c1
  have hlt := h.lt
  have hyb := atL_bounds S.out x.r.st.s
  have hd : dueB S x.r = (covL S.out x.r.d && (x.r.st.q == atL S.out x.r.st.s + 1)) := by unfold dueB; rw [Bool.and_comm]
  obtain ⟨⟨rk, rs, rt, rv, rtier, ⟨rc, rst, rq⟩, rd⟩, ra, rcc⟩ := x
  unfold recV Rd.dv at *
  dsimp only at *
  obtain ⟨oa, oc, rfl⟩ := h.ns.slice
  obtain ⟨y, hy⟩ : ∃ z, atL S.out rst = z := ⟨_, rfl⟩
  rw [hy] at ka hd hyb
  have hw : IntKind.i64.wrap (y + 1) = y + 1 := by rw [IntKind.wrap_i64]; omega
  have HE := Lib.hid hd
  have H0 : HR w w.heap.size ⟨⟨rk, rs, rt, rv, rtier, ⟨rc, rst, rq⟩, rd⟩, ra, rcc⟩ (w.alloc (box9 ⟨⟨rk, rs, rt, rv, rtier, ⟨rc, rst, rq⟩, rd⟩, ra, rcc⟩)) := ⟨R9.new w _, (Below.refl _ _).alloc (Nat.le_refl _) _⟩
  clear h hN hd hy hyb
  unfold box9 at H0
  dsimp only at H0
  cases hz : covL S.out rd with
  | true =>
    rw [hz] at kc HE
    clear hz
    go_enter Try.func37, Try.ntmps37
    go_wp2_with fail
    refine wp_region_held_drew (S := (HR w w.heap.size ⟨⟨rk, rs, rt, rv, rtier, ⟨rc, rst, rq⟩, rd⟩, ra, rcc⟩)) (by kernel_rfl) H0.drew (fun hHeld => ?_)
    refine wpAnyH_take (i := 0) (oi := ?dt1o) (v := ?dt1v) ?dt1h (by kernel_rfl) (by kernel_rfl) (by kernel_rfl) ?dt1q ?dt1y hHeld ?dt1r
    case dt1h => (simp only [List.getElem?_toArray, List.getElem?_cons_zero]; rfl)
    case dt1q => exact fun _ _ _ h => h
    case dt1y => (refine Or.inl ⟨by first | kernel_rfl | rfl, ?_⟩; intro w hSw; (try dsimp only at hSw); obtain ⟨⟨x0, x1, x2, x3, x4, x5, x6, x7, x8⟩, hb7⟩ := hSw; dsimp only at x0 x1 x2 x3 x4 x5 x6 x7 x8; have c1 := (hb7.cell (p := ⟨b, 1, none⟩) hlt).trans hc1; go_simp <;> (try with_reducible rfl))
    try simp only [Act.put, List.setIfInBounds_toArray, List.set_cons_zero, List.set_cons_succ]
    refine wpAnyH_take (i := 1) (oi := ?dt2o) (v := ?dt2v) ?dt2h (by kernel_rfl) (by kernel_rfl) (by kernel_rfl) ?dt2q ?dt2y hHeld ?dt2r
    case dt2h => (simp only [List.getElem?_toArray, List.getElem?_cons_succ, List.getElem?_cons_zero]; rfl)
    case dt2q => exact fun _ _ _ h => h
    case dt2y => (refine Or.inl ⟨by first | kernel_rfl | rfl, ?_⟩; intro w hSw; (try dsimp only at hSw); obtain ⟨⟨x0, x1, x2, x3, x4, x5, x6, x7, x8⟩, hb7⟩ := hSw; dsimp only at x0 x1 x2 x3 x4 x5 x6 x7 x8; have c1 := (hb7.cell (p := ⟨b, 1, none⟩) hlt).trans hc1; go_simp <;> (try with_reducible rfl))
    try simp only [Act.put, List.setIfInBounds_toArray, List.set_cons_zero, List.set_cons_succ]
    refine wpAnyH_take (i := 2) (oi := ?dt3o) (v := ?dt3v) ?dt3h (by kernel_rfl) (by kernel_rfl) (by kernel_rfl) ?dt3q ?dt3y hHeld ?dt3r
    case dt3h => (simp only [List.getElem?_toArray, List.getElem?_cons_succ, List.getElem?_cons_zero]; rfl)
    case dt3q => exact fun _ _ _ h => h
    case dt3y => (refine Or.inl ⟨by first | kernel_rfl | rfl, ?_⟩; intro w hSw; (try dsimp only at hSw); obtain ⟨⟨x0, x1, x2, x3, x4, x5, x6, x7, x8⟩, hb7⟩ := hSw; dsimp only at x0 x1 x2 x3 x4 x5 x6 x7 x8; have c1 := (hb7.cell (p := ⟨b, 1, none⟩) hlt).trans hc1; go_simp <;> (try with_reducible rfl))
    try simp only [Act.put, List.setIfInBounds_toArray, List.set_cons_zero, List.set_cons_succ]
    refine wpAnyH_take (i := 3) (oi := ?dt4o) (v := ?dt4v) ?dt4h (by kernel_rfl) (by kernel_rfl) (by kernel_rfl) ?dt4q ?dt4y hHeld ?dt4r
    case dt4h => (simp only [List.getElem?_toArray, List.getElem?_cons_succ, List.getElem?_cons_zero]; rfl)
    case dt4q => exact fun _ _ _ h => h
    case dt4y => (refine Or.inl ⟨by first | kernel_rfl | rfl, ?_⟩; intro w hSw; (try dsimp only at hSw); obtain ⟨⟨x0, x1, x2, x3, x4, x5, x6, x7, x8⟩, hb7⟩ := hSw; dsimp only at x0 x1 x2 x3 x4 x5 x6 x7 x8; have c1 := (hb7.cell (p := ⟨b, 1, none⟩) hlt).trans hc1; go_simp <;> (try with_reducible rfl))
    try simp only [Act.put, List.setIfInBounds_toArray, List.set_cons_zero, List.set_cons_succ]
    refine wpAnyH_take (i := 4) (oi := ?dt5o) (v := ?dt5v) ?dt5h (by kernel_rfl) (by kernel_rfl) (by kernel_rfl) ?dt5q ?dt5y hHeld ?dt5r
    case dt5h => (simp only [List.getElem?_toArray, List.getElem?_cons_succ, List.getElem?_cons_zero]; rfl)
    case dt5q => exact fun _ _ _ h => h
    case dt5y => (refine Or.inl ⟨by first | kernel_rfl | rfl, ?_⟩; intro w hSw; (try dsimp only at hSw); obtain ⟨⟨x0, x1, x2, x3, x4, x5, x6, x7, x8⟩, hb7⟩ := hSw; dsimp only at x0 x1 x2 x3 x4 x5 x6 x7 x8; have c1 := (hb7.cell (p := ⟨b, 1, none⟩) hlt).trans hc1; go_simp <;> (try with_reducible rfl))
    try simp only [Act.put, List.setIfInBounds_toArray, List.set_cons_zero, List.set_cons_succ]
    refine wpAnyH_take (i := 5) (oi := ?dt6o) (v := ?dt6v) ?dt6h (by kernel_rfl) (by kernel_rfl) (by kernel_rfl) ?dt6q ?dt6y hHeld ?dt6r
    case dt6h => (simp only [List.getElem?_toArray, List.getElem?_cons_succ, List.getElem?_cons_zero]; rfl)
    case dt6q => exact fun _ _ _ h => h
    case dt6y => (refine Or.inl ⟨by first | kernel_rfl | rfl, ?_⟩; intro w hSw; (try dsimp only at hSw); obtain ⟨⟨x0, x1, x2, x3, x4, x5, x6, x7, x8⟩, hb7⟩ := hSw; dsimp only at x0 x1 x2 x3 x4 x5 x6 x7 x8; have c1 := (hb7.cell (p := ⟨b, 1, none⟩) hlt).trans hc1; go_simp <;> (try with_reducible rfl))
    try simp only [Act.put, List.setIfInBounds_toArray, List.set_cons_zero, List.set_cons_succ]
    refine wpAnyH_ready (rs := [6]) (by kernel_rfl) (by simp) ?_
    refine (AllReadyH.cons rfl (fun K hK => ?_) AllReadyH.nil)
    go_simp
    (go_at_call 26; (with_reducible refine (kc _ hHeld.bel).mono ?_); rintro e w2 ⟨rfl, hb2⟩; (have hHeld := hHeld.later hb2); clear hb2)
    refine hK.out _ _ (hHeld) (fun hHeld => ?_)
    clear hK K
    try simp only [Act.put, List.setIfInBounds_toArray, List.set_cons_zero, List.set_cons_succ]
    refine wpAnyH_take (i := 7) (oi := ?dt7o) (v := ?dt7v) ?dt7h (by kernel_rfl) (by kernel_rfl) (by kernel_rfl) ?dt7q ?dt7y hHeld ?dt7r
    case dt7h => (simp only [List.getElem?_toArray, List.getElem?_cons_succ, List.getElem?_cons_zero]; rfl)
    case dt7q => exact fun _ _ _ h => h
    case dt7y => (refine Or.inl ⟨by first | kernel_rfl | rfl, ?_⟩; intro w hSw; (try dsimp only at hSw); obtain ⟨⟨x0, x1, x2, x3, x4, x5, x6, x7, x8⟩, hb7⟩ := hSw; dsimp only at x0 x1 x2 x3 x4 x5 x6 x7 x8; have c1 := (hb7.cell (p := ⟨b, 1, none⟩) hlt).trans hc1; go_simp <;> (try with_reducible rfl))
    try simp only [Act.put, List.setIfInBounds_toArray, List.set_cons_zero, List.set_cons_succ]
    refine wpAnyH_done (by kernel_rfl) ?_ _
    go_wp2_with fail
    refine wp_region_held_drew (S := (HR w w.heap.size ⟨⟨rk, rs, rt, rv, rtier, ⟨rc, rst, rq⟩, rd⟩, ra, rcc⟩)) (by kernel_rfl) hHeld.drew (fun hHeld => ?_)
    refine wpAnyH_take (i := 0) (oi := ?et1o) (v := ?et1v) ?et1h (by kernel_rfl) (by kernel_rfl) (by kernel_rfl) ?et1q ?et1y hHeld ?et1r
    case et1h => (simp only [List.getElem?_toArray, List.getElem?_cons_zero]; rfl)
    case et1q => exact fun _ _ _ h => h
    case et1y => (refine Or.inl ⟨by first | kernel_rfl | rfl, ?_⟩; intro w hSw; (try dsimp only at hSw); obtain ⟨⟨x0, x1, x2, x3, x4, x5, x6, x7, x8⟩, hb7⟩ := hSw; dsimp only at x0 x1 x2 x3 x4 x5 x6 x7 x8; have c1 := (hb7.cell (p := ⟨b, 1, none⟩) hlt).trans hc1; go_simp <;> (try with_reducible rfl))
    try simp only [Act.put, List.setIfInBounds_toArray, List.set_cons_zero, List.set_cons_succ]
    refine wpAnyH_take (i := 1) (oi := ?et2o) (v := ?et2v) ?et2h (by kernel_rfl) (by kernel_rfl) (by kernel_rfl) ?et2q ?et2y hHeld ?et2r
    case et2h => (simp only [List.getElem?_toArray, List.getElem?_cons_succ, List.getElem?_cons_zero]; rfl)
    case et2q => exact fun _ _ _ h => h
    case et2y => (refine Or.inl ⟨by first | kernel_rfl | rfl, ?_⟩; intro w hSw; (try dsimp only at hSw); obtain ⟨⟨x0, x1, x2, x3, x4, x5, x6, x7, x8⟩, hb7⟩ := hSw; dsimp only at x0 x1 x2 x3 x4 x5 x6 x7 x8; have c1 := (hb7.cell (p := ⟨b, 1, none⟩) hlt).trans hc1; go_simp <;> (try with_reducible rfl))
    try simp only [Act.put, List.setIfInBounds_toArray, List.set_cons_zero, List.set_cons_succ]
    refine wpAnyH_take (i := 2) (oi := ?et3o) (v := ?et3v) ?et3h (by kernel_rfl) (by kernel_rfl) (by kernel_rfl) ?et3q ?et3y hHeld ?et3r
    case et3h => (simp only [List.getElem?_toArray, List.getElem?_cons_succ, List.getElem?_cons_zero]; rfl)
    case et3q => exact fun _ _ _ h => h
    case et3y => (refine Or.inl ⟨by first | kernel_rfl | rfl, ?_⟩; intro w hSw; (try dsimp only at hSw); obtain ⟨⟨x0, x1, x2, x3, x4, x5, x6, x7, x8⟩, hb7⟩ := hSw; dsimp only at x0 x1 x2 x3 x4 x5 x6 x7 x8; have c1 := (hb7.cell (p := ⟨b, 1, none⟩) hlt).trans hc1; go_simp <;> (try with_reducible rfl))
    try simp only [Act.put, List.setIfInBounds_toArray, List.set_cons_zero, List.set_cons_succ]
    refine wpAnyH_take (i := 3) (oi := ?et4o) (v := ?et4v) ?et4h (by kernel_rfl) (by kernel_rfl) (by kernel_rfl) ?et4q ?et4y hHeld ?et4r
    case et4h => (simp only [List.getElem?_toArray, List.getElem?_cons_succ, List.getElem?_cons_zero]; rfl)
    case et4q => exact fun _ _ _ h => h
    case et4y => (refine Or.inl ⟨by first | kernel_rfl | rfl, ?_⟩; intro w hSw; (try dsimp only at hSw); obtain ⟨⟨x0, x1, x2, x3, x4, x5, x6, x7, x8⟩, hb7⟩ := hSw; dsimp only at x0 x1 x2 x3 x4 x5 x6 x7 x8; have c1 := (hb7.cell (p := ⟨b, 1, none⟩) hlt).trans hc1; go_simp <;> (try with_reducible rfl))
    try simp only [Act.put, List.setIfInBounds_toArray, List.set_cons_zero, List.set_cons_succ]
    refine wpAnyH_take (i := 4) (oi := ?et5o) (v := ?et5v) ?et5h (by kernel_rfl) (by kernel_rfl) (by kernel_rfl) ?et5q ?et5y hHeld ?et5r
    case et5h => (simp only [List.getElem?_toArray, List.getElem?_cons_succ, List.getElem?_cons_zero]; rfl)
    case et5q => exact fun _ _ _ h => h
    case et5y => (refine Or.inl ⟨by first | kernel_rfl | rfl, ?_⟩; intro w hSw; (try dsimp only at hSw); obtain ⟨⟨x0, x1, x2, x3, x4, x5, x6, x7, x8⟩, hb7⟩ := hSw; dsimp only at x0 x1 x2 x3 x4 x5 x6 x7 x8; have c1 := (hb7.cell (p := ⟨b, 1, none⟩) hlt).trans hc1; go_simp <;> (try with_reducible rfl))
    try simp only [Act.put, List.setIfInBounds_toArray, List.set_cons_zero, List.set_cons_succ]
    refine wpAnyH_take (i := 5) (oi := ?et6o) (v := ?et6v) ?et6h (by kernel_rfl) (by kernel_rfl) (by kernel_rfl) ?et6q ?et6y hHeld ?et6r
    case et6h => (simp only [List.getElem?_toArray, List.getElem?_cons_succ, List.getElem?_cons_zero]; rfl)
    case et6q => exact fun _ _ _ h => h
    case et6y => (refine Or.inl ⟨by first | kernel_rfl | rfl, ?_⟩; intro w hSw; (try dsimp only at hSw); obtain ⟨⟨x0, x1, x2, x3, x4, x5, x6, x7, x8⟩, hb7⟩ := hSw; dsimp only at x0 x1 x2 x3 x4 x5 x6 x7 x8; have c1 := (hb7.cell (p := ⟨b, 1, none⟩) hlt).trans hc1; go_simp <;> (try with_reducible rfl))
    try simp only [Act.put, List.setIfInBounds_toArray, List.set_cons_zero, List.set_cons_succ]
    refine wpAnyH_take (i := 6) (oi := ?et7o) (v := ?et7v) ?et7h (by kernel_rfl) (by kernel_rfl) (by kernel_rfl) ?et7q ?et7y hHeld ?et7r
    case et7h => (simp only [List.getElem?_toArray, List.getElem?_cons_succ, List.getElem?_cons_zero]; rfl)
    case et7q => exact fun _ _ _ h => h
    case et7y => (refine Or.inl ⟨by first | kernel_rfl | rfl, ?_⟩; intro w hSw; (try dsimp only at hSw); obtain ⟨⟨x0, x1, x2, x3, x4, x5, x6, x7, x8⟩, hb7⟩ := hSw; dsimp only at x0 x1 x2 x3 x4 x5 x6 x7 x8; have c1 := (hb7.cell (p := ⟨b, 1, none⟩) hlt).trans hc1; go_simp <;> (try with_reducible rfl))
    try simp only [Act.put, List.setIfInBounds_toArray, List.set_cons_zero, List.set_cons_succ]
    refine wpAnyH_take (i := 7) (oi := ?et8o) (v := ?et8v) ?et8h (by kernel_rfl) (by kernel_rfl) (by kernel_rfl) ?et8q ?et8y hHeld ?et8r
    case et8h => (simp only [List.getElem?_toArray, List.getElem?_cons_succ, List.getElem?_cons_zero]; rfl)
    case et8q => exact fun _ _ _ h => h
    case et8y => (refine Or.inl ⟨by first | kernel_rfl | rfl, ?_⟩; intro w hSw; (try dsimp only at hSw); obtain ⟨⟨x0, x1, x2, x3, x4, x5, x6, x7, x8⟩, hb7⟩ := hSw; dsimp only at x0 x1 x2 x3 x4 x5 x6 x7 x8; have c1 := (hb7.cell (p := ⟨b, 1, none⟩) hlt).trans hc1; go_simp <;> (try with_reducible rfl))
    try simp only [Act.put, List.setIfInBounds_toArray, List.set_cons_zero, List.set_cons_succ]
    refine wpAnyH_take (i := 8) (oi := ?et9o) (v := ?et9v) ?et9h (by kernel_rfl) (by kernel_rfl) (by kernel_rfl) ?et9q ?et9y hHeld ?et9r
    case et9h => (simp only [List.getElem?_toArray, List.getElem?_cons_succ, List.getElem?_cons_zero]; rfl)
    case et9q => exact fun _ _ _ h => h
    case et9y => (refine Or.inl ⟨by first | kernel_rfl | rfl, ?_⟩; intro w hSw; (try dsimp only at hSw); obtain ⟨⟨x0, x1, x2, x3, x4, x5, x6, x7, x8⟩, hb7⟩ := hSw; dsimp only at x0 x1 x2 x3 x4 x5 x6 x7 x8; have c1 := (hb7.cell (p := ⟨b, 1, none⟩) hlt).trans hc1; go_simp <;> (try with_reducible rfl))
    try simp only [Act.put, List.setIfInBounds_toArray, List.set_cons_zero, List.set_cons_succ]
    refine wpAnyH_take (i := 9) (oi := ?et10o) (v := ?et10v) ?et10h (by kernel_rfl) (by kernel_rfl) (by kernel_rfl) ?et10q ?et10y hHeld ?et10r
    case et10h => (simp only [List.getElem?_toArray, List.getElem?_cons_succ, List.getElem?_cons_zero]; rfl)
    case et10q => exact fun _ _ _ h => h
    case et10y => (refine Or.inl ⟨by first | kernel_rfl | rfl, ?_⟩; intro w hSw; (try dsimp only at hSw); obtain ⟨⟨x0, x1, x2, x3, x4, x5, x6, x7, x8⟩, hb7⟩ := hSw; dsimp only at x0 x1 x2 x3 x4 x5 x6 x7 x8; have c1 := (hb7.cell (p := ⟨b, 1, none⟩) hlt).trans hc1; go_simp <;> (try with_reducible rfl))
    try simp only [Act.put, List.setIfInBounds_toArray, List.set_cons_zero, List.set_cons_succ]
    refine wpAnyH_take (i := 10) (oi := ?et11o) (v := ?et11v) ?et11h (by kernel_rfl) (by kernel_rfl) (by kernel_rfl) ?et11q ?et11y hHeld ?et11r
    case et11h => (simp only [List.getElem?_toArray, List.getElem?_cons_succ, List.getElem?_cons_zero]; rfl)
    case et11q => exact fun _ _ _ h => h
    case et11y => (refine Or.inl ⟨by first | kernel_rfl | rfl, ?_⟩; intro w hSw; (try dsimp only at hSw); obtain ⟨⟨x0, x1, x2, x3, x4, x5, x6, x7, x8⟩, hb7⟩ := hSw; dsimp only at x0 x1 x2 x3 x4 x5 x6 x7 x8; have c1 := (hb7.cell (p := ⟨b, 1, none⟩) hlt).trans hc1; go_simp <;> (try with_reducible rfl))
    try simp only [Act.put, List.setIfInBounds_toArray, List.set_cons_zero, List.set_cons_succ]
    refine wpAnyH_take (i := 11) (oi := ?et12o) (v := ?et12v) ?et12h (by kernel_rfl) (by kernel_rfl) (by kernel_rfl) ?et12q ?et12y hHeld ?et12r
    case et12h => (simp only [List.getElem?_toArray, List.getElem?_cons_succ, List.getElem?_cons_zero]; rfl)
    case et12q => exact fun _ _ _ h => h
    case et12y => (refine Or.inl ⟨by first | kernel_rfl | rfl, ?_⟩; intro w hSw; (try dsimp only at hSw); obtain ⟨⟨x0, x1, x2, x3, x4, x5, x6, x7, x8⟩, hb7⟩ := hSw; dsimp only at x0 x1 x2 x3 x4 x5 x6 x7 x8; have c1 := (hb7.cell (p := ⟨b, 1, none⟩) hlt).trans hc1; go_simp <;> (try with_reducible rfl))
    try simp only [Act.put, List.setIfInBounds_toArray, List.set_cons_zero, List.set_cons_succ]
    refine wpAnyH_ready (rs := [12]) (by kernel_rfl) (by simp) ?_
    refine (AllReadyH.cons rfl (fun K hK => ?_) AllReadyH.nil)
    go_simp
    (go_at_call 27; (with_reducible refine (ka _ hHeld.bel).mono ?_); rintro e w3 ⟨rfl, hb3⟩; (have hHeld := hHeld.later hb3); clear hb3)
    refine hK.out _ _ (hHeld) (fun hHeld => ?_)
    clear hK K
    try simp only [Act.put, List.setIfInBounds_toArray, List.set_cons_zero, List.set_cons_succ]
    refine wpAnyH_take (i := 13) (oi := ?et13o) (v := ?et13v) ?et13h (by kernel_rfl) (by kernel_rfl) (by kernel_rfl) ?et13q ?et13y hHeld ?et13r
    case et13h => (simp only [List.getElem?_toArray, List.getElem?_cons_succ, List.getElem?_cons_zero]; rfl)
    case et13q => exact fun _ _ _ h => h
    case et13y => (refine Or.inl ⟨by first | kernel_rfl | rfl, ?_⟩; intro w hSw; (try dsimp only at hSw); obtain ⟨⟨x0, x1, x2, x3, x4, x5, x6, x7, x8⟩, hb7⟩ := hSw; dsimp only at x0 x1 x2 x3 x4 x5 x6 x7 x8; have c1 := (hb7.cell (p := ⟨b, 1, none⟩) hlt).trans hc1; go_simp <;> (try with_reducible rfl))
    try simp only [Act.put, List.setIfInBounds_toArray, List.set_cons_zero, List.set_cons_succ]
    refine wpAnyH_take (i := 14) (oi := ?et14o) (v := ?et14v) ?et14h (by kernel_rfl) (by kernel_rfl) (by kernel_rfl) ?et14q ?et14y hHeld ?et14r
    case et14h => (simp only [List.getElem?_toArray, List.getElem?_cons_succ, List.getElem?_cons_zero]; rfl)
    case et14q => exact fun _ _ _ h => h
    case et14y => (refine Or.inl ⟨by first | kernel_rfl | rfl, ?_⟩; intro w hSw; (try dsimp only at hSw); obtain ⟨⟨x0, x1, x2, x3, x4, x5, x6, x7, x8⟩, hb7⟩ := hSw; dsimp only at x0 x1 x2 x3 x4 x5 x6 x7 x8; have c1 := (hb7.cell (p := ⟨b, 1, none⟩) hlt).trans hc1; go_simp <;> (try with_reducible rfl))
    try simp only [Act.put, List.setIfInBounds_toArray, List.set_cons_zero, List.set_cons_succ]
    refine wpAnyH_take (i := 15) (oi := ?et15o) (v := ?et15v) ?et15h (by kernel_rfl) (by kernel_rfl) (by kernel_rfl) ?et15q ?et15y hHeld ?et15r
    case et15h => (simp only [List.getElem?_toArray, List.getElem?_cons_succ, List.getElem?_cons_zero]; rfl)
    case et15q => exact fun _ _ _ h => h
    case et15y => (refine Or.inl ⟨by first | kernel_rfl | rfl, ?_⟩; intro w hSw; (try dsimp only at hSw); obtain ⟨⟨x0, x1, x2, x3, x4, x5, x6, x7, x8⟩, hb7⟩ := hSw; dsimp only at x0 x1 x2 x3 x4 x5 x6 x7 x8; have c1 := (hb7.cell (p := ⟨b, 1, none⟩) hlt).trans hc1; go_simp <;> (try with_reducible rfl))
    try simp only [Act.put, List.setIfInBounds_toArray, List.set_cons_zero, List.set_cons_succ]
    refine wpAnyH_take (i := 16) (oi := ?et16o) (v := ?et16v) ?et16h (by kernel_rfl) (by kernel_rfl) (by kernel_rfl) ?et16q ?et16y hHeld ?et16r
    case et16h => (simp only [List.getElem?_toArray, List.getElem?_cons_succ, List.getElem?_cons_zero]; rfl)
    case et16q => exact fun _ _ _ h => h
    case et16y => (refine Or.inl ⟨by first | kernel_rfl | rfl, ?_⟩; intro w hSw; (try dsimp only at hSw); obtain ⟨⟨x0, x1, x2, x3, x4, x5, x6, x7, x8⟩, hb7⟩ := hSw; dsimp only at x0 x1 x2 x3 x4 x5 x6 x7 x8; have c1 := (hb7.cell (p := ⟨b, 1, none⟩) hlt).trans hc1; go_simp <;> (try with_reducible rfl))
    try simp only [Act.put, List.setIfInBounds_toArray, List.set_cons_zero, List.set_cons_succ]
    refine wpAnyH_done (by kernel_rfl) ?_ _
    go_wp2
    go_ret
    exact ⟨(by rw [HE.out]; rfl), hHeld.bel⟩
  | false =>
    rw [hz] at kc HE
    clear hz
    go_enter Try.func37, Try.ntmps37
    go_wp2_with fail
    refine wp_region_held_drew (S := (HR w w.heap.size ⟨⟨rk, rs, rt, rv, rtier, ⟨rc, rst, rq⟩, rd⟩, ra, rcc⟩)) (by kernel_rfl) H0.drew (fun hHeld => ?_)
    refine wpAnyH_take (i := 0) (oi := ?df1o) (v := ?df1v) ?df1h (by kernel_rfl) (by kernel_rfl) (by kernel_rfl) ?df1q ?df1y hHeld ?df1r
    case df1h => (simp only [List.getElem?_toArray, List.getElem?_cons_zero]; rfl)
    case df1q => exact fun _ _ _ h => h
    case df1y => (refine Or.inl ⟨by first | kernel_rfl | rfl, ?_⟩; intro w hSw; (try dsimp only at hSw); obtain ⟨⟨x0, x1, x2, x3, x4, x5, x6, x7, x8⟩, hb7⟩ := hSw; dsimp only at x0 x1 x2 x3 x4 x5 x6 x7 x8; have c1 := (hb7.cell (p := ⟨b, 1, none⟩) hlt).trans hc1; go_simp <;> (try with_reducible rfl))
    try simp only [Act.put, List.setIfInBounds_toArray, List.set_cons_zero, List.set_cons_succ]
    refine wpAnyH_take (i := 1) (oi := ?df2o) (v := ?df2v) ?df2h (by kernel_rfl) (by kernel_rfl) (by kernel_rfl) ?df2q ?df2y hHeld ?df2r
    case df2h => (simp only [List.getElem?_toArray, List.getElem?_cons_succ, List.getElem?_cons_zero]; rfl)
    case df2q => exact fun _ _ _ h => h
    case df2y => (refine Or.inl ⟨by first | kernel_rfl | rfl, ?_⟩; intro w hSw; (try dsimp only at hSw); obtain ⟨⟨x0, x1, x2, x3, x4, x5, x6, x7, x8⟩, hb7⟩ := hSw; dsimp only at x0 x1 x2 x3 x4 x5 x6 x7 x8; have c1 := (hb7.cell (p := ⟨b, 1, none⟩) hlt).trans hc1; go_simp <;> (try with_reducible rfl))
    try simp only [Act.put, List.setIfInBounds_toArray, List.set_cons_zero, List.set_cons_succ]
    refine wpAnyH_take (i := 2) (oi := ?df3o) (v := ?df3v) ?df3h (by kernel_rfl) (by kernel_rfl) (by kernel_rfl) ?df3q ?df3y hHeld ?df3r
    case df3h => (simp only [List.getElem?_toArray, List.getElem?_cons_succ, List.getElem?_cons_zero]; rfl)
    case df3q => exact fun _ _ _ h => h
    case df3y => (refine Or.inl ⟨by first | kernel_rfl | rfl, ?_⟩; intro w hSw; (try dsimp only at hSw); obtain ⟨⟨x0, x1, x2, x3, x4, x5, x6, x7, x8⟩, hb7⟩ := hSw; dsimp only at x0 x1 x2 x3 x4 x5 x6 x7 x8; have c1 := (hb7.cell (p := ⟨b, 1, none⟩) hlt).trans hc1; go_simp <;> (try with_reducible rfl))
    try simp only [Act.put, List.setIfInBounds_toArray, List.set_cons_zero, List.set_cons_succ]
    refine wpAnyH_take (i := 3) (oi := ?df4o) (v := ?df4v) ?df4h (by kernel_rfl) (by kernel_rfl) (by kernel_rfl) ?df4q ?df4y hHeld ?df4r
    case df4h => (simp only [List.getElem?_toArray, List.getElem?_cons_succ, List.getElem?_cons_zero]; rfl)
    case df4q => exact fun _ _ _ h => h
    case df4y => (refine Or.inl ⟨by first | kernel_rfl | rfl, ?_⟩; intro w hSw; (try dsimp only at hSw); obtain ⟨⟨x0, x1, x2, x3, x4, x5, x6, x7, x8⟩, hb7⟩ := hSw; dsimp only at x0 x1 x2 x3 x4 x5 x6 x7 x8; have c1 := (hb7.cell (p := ⟨b, 1, none⟩) hlt).trans hc1; go_simp <;> (try with_reducible rfl))
    try simp only [Act.put, List.setIfInBounds_toArray, List.set_cons_zero, List.set_cons_succ]
    refine wpAnyH_take (i := 4) (oi := ?df5o) (v := ?df5v) ?df5h (by kernel_rfl) (by kernel_rfl) (by kernel_rfl) ?df5q ?df5y hHeld ?df5r
    case df5h => (simp only [List.getElem?_toArray, List.getElem?_cons_succ, List.getElem?_cons_zero]; rfl)
    case df5q => exact fun _ _ _ h => h
    case df5y => (refine Or.inl ⟨by first | kernel_rfl | rfl, ?_⟩; intro w hSw; (try dsimp only at hSw); obtain ⟨⟨x0, x1, x2, x3, x4, x5, x6, x7, x8⟩, hb7⟩ := hSw; dsimp only at x0 x1 x2 x3 x4 x5 x6 x7 x8; have c1 := (hb7.cell (p := ⟨b, 1, none⟩) hlt).trans hc1; go_simp <;> (try with_reducible rfl))
    try simp only [Act.put, List.setIfInBounds_toArray, List.set_cons_zero, List.set_cons_succ]
    refine wpAnyH_take (i := 5) (oi := ?df6o) (v := ?df6v) ?df6h (by kernel_rfl) (by kernel_rfl) (by kernel_rfl) ?df6q ?df6y hHeld ?df6r
    case df6h => (simp only [List.getElem?_toArray, List.getElem?_cons_succ, List.getElem?_cons_zero]; rfl)
    case df6q => exact fun _ _ _ h => h
    case df6y => (refine Or.inl ⟨by first | kernel_rfl | rfl, ?_⟩; intro w hSw; (try dsimp only at hSw); obtain ⟨⟨x0, x1, x2, x3, x4, x5, x6, x7, x8⟩, hb7⟩ := hSw; dsimp only at x0 x1 x2 x3 x4 x5 x6 x7 x8; have c1 := (hb7.cell (p := ⟨b, 1, none⟩) hlt).trans hc1; go_simp <;> (try with_reducible rfl))
    try simp only [Act.put, List.setIfInBounds_toArray, List.set_cons_zero, List.set_cons_succ]
    refine wpAnyH_ready (rs := [6]) (by kernel_rfl) (by simp) ?_
    refine (AllReadyH.cons rfl (fun K hK => ?_) AllReadyH.nil)
    go_simp
    (go_at_call 26; (with_reducible refine (kc _ hHeld.bel).mono ?_); rintro e w2 ⟨rfl, hb2⟩; (have hHeld := hHeld.later hb2); clear hb2)
    refine hK.out _ _ (hHeld) (fun hHeld => ?_)
    clear hK K
    try simp only [Act.put, List.setIfInBounds_toArray, List.set_cons_zero, List.set_cons_succ]
    refine wpAnyH_take (i := 7) (oi := ?df7o) (v := ?df7v) ?df7h (by kernel_rfl) (by kernel_rfl) (by kernel_rfl) ?df7q ?df7y hHeld ?df7r
    case df7h => (simp only [List.getElem?_toArray, List.getElem?_cons_succ, List.getElem?_cons_zero]; rfl)
    case df7q => exact fun _ _ _ h => h
    case df7y => (refine Or.inl ⟨by first | kernel_rfl | rfl, ?_⟩; intro w hSw; (try dsimp only at hSw); obtain ⟨⟨x0, x1, x2, x3, x4, x5, x6, x7, x8⟩, hb7⟩ := hSw; dsimp only at x0 x1 x2 x3 x4 x5 x6 x7 x8; have c1 := (hb7.cell (p := ⟨b, 1, none⟩) hlt).trans hc1; go_simp <;> (try with_reducible rfl))
    try simp only [Act.put, List.setIfInBounds_toArray, List.set_cons_zero, List.set_cons_succ]
    refine wpAnyH_done (by kernel_rfl) ?_ _
    go_wp2_with fail
    refine wp_region_held_drew (S := (HR w w.heap.size ⟨⟨rk, rs, rt, rv, rtier, ⟨rc, rst, rq⟩, rd⟩, ra, rcc⟩)) (by kernel_rfl) hHeld.drew (fun hHeld => ?_)
    refine wpAnyH_take (i := 0) (oi := ?ef1o) (v := ?ef1v) ?ef1h (by kernel_rfl) (by kernel_rfl) (by kernel_rfl) ?ef1q ?ef1y hHeld ?ef1r
    case ef1h => (simp only [List.getElem?_toArray, List.getElem?_cons_zero]; rfl)
    case ef1q => exact fun _ _ _ h => h
    case ef1y => (refine Or.inl ⟨by first | kernel_rfl | rfl, ?_⟩; intro w hSw; (try dsimp only at hSw); obtain ⟨⟨x0, x1, x2, x3, x4, x5, x6, x7, x8⟩, hb7⟩ := hSw; dsimp only at x0 x1 x2 x3 x4 x5 x6 x7 x8; have c1 := (hb7.cell (p := ⟨b, 1, none⟩) hlt).trans hc1; go_simp <;> (try with_reducible rfl))
    try simp only [Act.put, List.setIfInBounds_toArray, List.set_cons_zero, List.set_cons_succ]
    refine wpAnyH_take (i := 1) (oi := ?ef2o) (v := ?ef2v) ?ef2h (by kernel_rfl) (by kernel_rfl) (by kernel_rfl) ?ef2q ?ef2y hHeld ?ef2r
    case ef2h => (simp only [List.getElem?_toArray, List.getElem?_cons_succ, List.getElem?_cons_zero]; rfl)
    case ef2q => exact fun _ _ _ h => h
    case ef2y => (refine Or.inl ⟨by first | kernel_rfl | rfl, ?_⟩; intro w hSw; (try dsimp only at hSw); obtain ⟨⟨x0, x1, x2, x3, x4, x5, x6, x7, x8⟩, hb7⟩ := hSw; dsimp only at x0 x1 x2 x3 x4 x5 x6 x7 x8; have c1 := (hb7.cell (p := ⟨b, 1, none⟩) hlt).trans hc1; go_simp <;> (try with_reducible rfl))
    try simp only [Act.put, List.setIfInBounds_toArray, List.set_cons_zero, List.set_cons_succ]
    refine wpAnyH_take (i := 2) (oi := ?ef3o) (v := undef) ?ef3h (by kernel_rfl) (by kernel_rfl) (by kernel_rfl) ?ef3q ?ef3y hHeld ?ef3r
    case ef3h => (simp only [List.getElem?_toArray, List.getElem?_cons_succ, List.getElem?_cons_zero]; rfl)
    case ef3q => exact fun _ _ _ h => h
    case ef3y => exact Or.inr ⟨by first | kernel_rfl | rfl, rfl⟩
    try simp only [Act.put, List.setIfInBounds_toArray, List.set_cons_zero, List.set_cons_succ]
    refine wpAnyH_take (i := 3) (oi := ?ef4o) (v := undef) ?ef4h (by kernel_rfl) (by kernel_rfl) (by kernel_rfl) ?ef4q ?ef4y hHeld ?ef4r
    case ef4h => (simp only [List.getElem?_toArray, List.getElem?_cons_succ, List.getElem?_cons_zero]; rfl)
    case ef4q => exact fun _ _ _ h => h
    case ef4y => exact Or.inr ⟨by first | kernel_rfl | rfl, rfl⟩
    try simp only [Act.put, List.setIfInBounds_toArray, List.set_cons_zero, List.set_cons_succ]
    refine wpAnyH_take (i := 4) (oi := ?ef5o) (v := undef) ?ef5h (by kernel_rfl) (by kernel_rfl) (by kernel_rfl) ?ef5q ?ef5y hHeld ?ef5r
    case ef5h => (simp only [List.getElem?_toArray, List.getElem?_cons_succ, List.getElem?_cons_zero]; rfl)
    case ef5q => exact fun _ _ _ h => h
    case ef5y => exact Or.inr ⟨by first | kernel_rfl | rfl, rfl⟩
    try simp only [Act.put, List.setIfInBounds_toArray, List.set_cons_zero, List.set_cons_succ]
    refine wpAnyH_take (i := 5) (oi := ?ef6o) (v := undef) ?ef6h (by kernel_rfl) (by kernel_rfl) (by kernel_rfl) ?ef6q ?ef6y hHeld ?ef6r
    case ef6h => (simp only [List.getElem?_toArray, List.getElem?_cons_succ, List.getElem?_cons_zero]; rfl)
    case ef6q => exact fun _ _ _ h => h
    case ef6y => exact Or.inr ⟨by first | kernel_rfl | rfl, rfl⟩
    try simp only [Act.put, List.setIfInBounds_toArray, List.set_cons_zero, List.set_cons_succ]
    refine wpAnyH_take (i := 6) (oi := ?ef7o) (v := undef) ?ef7h (by kernel_rfl) (by kernel_rfl) (by kernel_rfl) ?ef7q ?ef7y hHeld ?ef7r
    case ef7h => (simp only [List.getElem?_toArray, List.getElem?_cons_succ, List.getElem?_cons_zero]; rfl)
    case ef7q => exact fun _ _ _ h => h
    case ef7y => exact Or.inr ⟨by first | kernel_rfl | rfl, rfl⟩
    try simp only [Act.put, List.setIfInBounds_toArray, List.set_cons_zero, List.set_cons_succ]
    refine wpAnyH_take (i := 7) (oi := ?ef8o) (v := undef) ?ef8h (by kernel_rfl) (by kernel_rfl) (by kernel_rfl) ?ef8q ?ef8y hHeld ?ef8r
    case ef8h => (simp only [List.getElem?_toArray, List.getElem?_cons_succ, List.getElem?_cons_zero]; rfl)
    case ef8q => exact fun _ _ _ h => h
    case ef8y => exact Or.inr ⟨by first | kernel_rfl | rfl, rfl⟩
    try simp only [Act.put, List.setIfInBounds_toArray, List.set_cons_zero, List.set_cons_succ]
    refine wpAnyH_take (i := 8) (oi := ?ef9o) (v := undef) ?ef9h (by kernel_rfl) (by kernel_rfl) (by kernel_rfl) ?ef9q ?ef9y hHeld ?ef9r
    case ef9h => (simp only [List.getElem?_toArray, List.getElem?_cons_succ, List.getElem?_cons_zero]; rfl)
    case ef9q => exact fun _ _ _ h => h
    case ef9y => exact Or.inr ⟨by first | kernel_rfl | rfl, rfl⟩
    try simp only [Act.put, List.setIfInBounds_toArray, List.set_cons_zero, List.set_cons_succ]
    refine wpAnyH_take (i := 9) (oi := ?ef10o) (v := undef) ?ef10h (by kernel_rfl) (by kernel_rfl) (by kernel_rfl) ?ef10q ?ef10y hHeld ?ef10r
    case ef10h => (simp only [List.getElem?_toArray, List.getElem?_cons_succ, List.getElem?_cons_zero]; rfl)
    case ef10q => exact fun _ _ _ h => h
    case ef10y => exact Or.inr ⟨by first | kernel_rfl | rfl, rfl⟩
    try simp only [Act.put, List.setIfInBounds_toArray, List.set_cons_zero, List.set_cons_succ]
    refine wpAnyH_take (i := 10) (oi := ?ef11o) (v := undef) ?ef11h (by kernel_rfl) (by kernel_rfl) (by kernel_rfl) ?ef11q ?ef11y hHeld ?ef11r
    case ef11h => (simp only [List.getElem?_toArray, List.getElem?_cons_succ, List.getElem?_cons_zero]; rfl)
    case ef11q => exact fun _ _ _ h => h
    case ef11y => exact Or.inr ⟨by first | kernel_rfl | rfl, rfl⟩
    try simp only [Act.put, List.setIfInBounds_toArray, List.set_cons_zero, List.set_cons_succ]
    refine wpAnyH_take (i := 11) (oi := ?ef12o) (v := undef) ?ef12h (by kernel_rfl) (by kernel_rfl) (by kernel_rfl) ?ef12q ?ef12y hHeld ?ef12r
    case ef12h => (simp only [List.getElem?_toArray, List.getElem?_cons_succ, List.getElem?_cons_zero]; rfl)
    case ef12q => exact fun _ _ _ h => h
    case ef12y => exact Or.inr ⟨by first | kernel_rfl | rfl, rfl⟩
    try simp only [Act.put, List.setIfInBounds_toArray, List.set_cons_zero, List.set_cons_succ]
    refine wpAnyH_take (i := 12) (oi := ?ef13o) (v := undef) ?ef13h (by kernel_rfl) (by kernel_rfl) (by kernel_rfl) ?ef13q ?ef13y hHeld ?ef13r
    case ef13h => (simp only [List.getElem?_toArray, List.getElem?_cons_succ, List.getElem?_cons_zero]; rfl)
    case ef13q => exact fun _ _ _ h => h
    case ef13y => exact Or.inr ⟨by first | kernel_rfl | rfl, rfl⟩
    try simp only [Act.put, List.setIfInBounds_toArray, List.set_cons_zero, List.set_cons_succ]
    refine wpAnyH_take (i := 13) (oi := ?ef14o) (v := undef) ?ef14h (by kernel_rfl) (by kernel_rfl) (by kernel_rfl) ?ef14q ?ef14y hHeld ?ef14r
    case ef14h => (simp only [List.getElem?_toArray, List.getElem?_cons_succ, List.getElem?_cons_zero]; rfl)
    case ef14q => exact fun _ _ _ h => h
    case ef14y => exact Or.inr ⟨by first | kernel_rfl | rfl, rfl⟩
    try simp only [Act.put, List.setIfInBounds_toArray, List.set_cons_zero, List.set_cons_succ]
    refine wpAnyH_take (i := 14) (oi := ?ef15o) (v := undef) ?ef15h (by kernel_rfl) (by kernel_rfl) (by kernel_rfl) ?ef15q ?ef15y hHeld ?ef15r
    case ef15h => (simp only [List.getElem?_toArray, List.getElem?_cons_succ, List.getElem?_cons_zero]; rfl)
    case ef15q => exact fun _ _ _ h => h
    case ef15y => exact Or.inr ⟨by first | kernel_rfl | rfl, rfl⟩
    try simp only [Act.put, List.setIfInBounds_toArray, List.set_cons_zero, List.set_cons_succ]
    refine wpAnyH_take (i := 15) (oi := ?ef16o) (v := ?ef16v) ?ef16h (by kernel_rfl) (by kernel_rfl) (by kernel_rfl) ?ef16q ?ef16y hHeld ?ef16r
    case ef16h => (simp only [List.getElem?_toArray, List.getElem?_cons_succ, List.getElem?_cons_zero]; rfl)
    case ef16q => exact fun _ _ _ h => h
    case ef16y => (refine Or.inl ⟨by first | kernel_rfl | rfl, ?_⟩; intro w hSw; (try dsimp only at hSw); obtain ⟨⟨x0, x1, x2, x3, x4, x5, x6, x7, x8⟩, hb7⟩ := hSw; dsimp only at x0 x1 x2 x3 x4 x5 x6 x7 x8; have c1 := (hb7.cell (p := ⟨b, 1, none⟩) hlt).trans hc1; go_simp <;> (try with_reducible rfl))
    try simp only [Act.put, List.setIfInBounds_toArray, List.set_cons_zero, List.set_cons_succ]
    refine wpAnyH_take (i := 16) (oi := ?ef17o) (v := ?ef17v) ?ef17h (by kernel_rfl) (by kernel_rfl) (by kernel_rfl) ?ef17q ?ef17y hHeld ?ef17r
    case ef17h => (simp only [List.getElem?_toArray, List.getElem?_cons_succ, List.getElem?_cons_zero]; rfl)
    case ef17q => exact fun _ _ _ h => h
    case ef17y => (refine Or.inl ⟨by first | kernel_rfl | rfl, ?_⟩; intro w hSw; (try dsimp only at hSw); obtain ⟨⟨x0, x1, x2, x3, x4, x5, x6, x7, x8⟩, hb7⟩ := hSw; dsimp only at x0 x1 x2 x3 x4 x5 x6 x7 x8; have c1 := (hb7.cell (p := ⟨b, 1, none⟩) hlt).trans hc1; go_simp <;> (try with_reducible rfl))
    try simp only [Act.put, List.setIfInBounds_toArray, List.set_cons_zero, List.set_cons_succ]
    refine wpAnyH_done (by kernel_rfl) ?_ _
    go_wp2
    go_ret
    exact ⟨(by rw [HE.out]; rfl), hHeld.bel⟩
end Go.Proofs.Ythifmfgnblecbaa.Og.Cb

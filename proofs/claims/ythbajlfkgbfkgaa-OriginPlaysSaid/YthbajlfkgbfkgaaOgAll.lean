/- Lists of records that a call makes; All. -/
import Derived.Test.YthbajlfkgbfkgaaOgLook
import Derived.Lib.AppendZeros
set_option maxRecDepth 20000
set_option linter.unusedSimpArgs false
set_option linter.unusedVariables false
namespace Go.Proofs.Ythbajlfkgbfkgaa.Og
open Go.RowKit Go.Proofs.Ythbajlfkgbfkgaa.Vi Go.Proofs.Ythbajlfkgbfkgaa.Mk

/-- own, with the record's parts. -/
theorem own_lit (k t v tier c s q : Int) (n : ByteArray) (d : List Int) (a : Option Addr) (cc : Nat) (w : World) (hN : Ns w (.slice a d.length cc) d) (hs : n.size ≤ 100000) (hl : d.length ≤ 1000000) :
    Calls Try.prog 42 #[.agg #[.int .i64 k, .string n, .int .i64 t, .int .i64 v, .int .i64 tier, .int .i64 c, .int .i64 s, .int .i64 q, .slice a d.length cc]] w fun e w' =>
      ∃ a2 c2, e = .returned (.agg #[.int .i64 k, .string n, .int .i64 t, .int .i64 v, .int .i64 tier, .int .i64 c, .int .i64 s, .int .i64 q, .slice a2 d.length c2]) ∧ Ns w' (.slice a2 d.length c2) d ∧ Below w.heap.size w w' ∧ ∀ z, (Value.slice a2 d.length c2).ownBlock = some z → w.heap.size ≤ z ∧ z < w'.heap.size := by
  refine (own_is ⟨⟨k, n, t, v, tier, ⟨c, s, q⟩, d⟩, a, cc⟩ w hN hs hl).mono fun e w' h => ?_
  obtain ⟨⟨r, a2, c2⟩, hr, he, h1, h2, h3⟩ := h
  dsimp only at hr
  subst hr
  exact ⟨a2, c2, he, h1, h2, h3⟩
/-- v is a list of the records l that was made above B. -/
structure Rows (w : World) (B : Nat) (v : Value) (l : List Rec) : Prop where
  has : ∃ ys : List Rd, ORow w B v ys ∧ ys.map Rd.r = l ∧ ∀ y ∈ ys, Ns w y.dv y.r.d ∧ ∀ q, y.dv.ownBlock = some q → B ≤ q ∧ q < w.heap.size ∧ v.ownBlock ≠ some q
theorem Rows.nil (w : World) (B : Nat) : Rows w B (.slice none 0 0) [] := ⟨⟨[], ORow.nil _ _, rfl, fun y h => by cases h⟩⟩
theorem Rows.slice {w : World} {B : Nat} {v : Value} {l : List Rec} (h : Rows w B v l) : ∃ a c, v = .slice a l.length c := by
  obtain ⟨ys, h1, h2, -⟩ := h.has
  have := h1.slice
  rw [← h2, List.length_map]
  exact this
theorem Rows.lt {w : World} {B : Nat} {v : Value} {l : List Rec} (h : Rows w B v l) {k : Nat} (hk : v.ownBlock = some k) : B ≤ k ∧ k < w.heap.size := by
  obtain ⟨ys, h1, -, -⟩ := h.has; exact h1.lt hk
theorem Rows.other {w w' : World} {B : Nat} {v : Value} {l : List Rec} (h : Rows w B v l) (hs : w.heap.size ≤ w'.heap.size) (k : ∀ g, B ≤ g → g < w.heap.size → w'.heap[g]? = w.heap[g]?) : Rows w' B v l := by
  obtain ⟨ys, h1, h2, h3⟩ := h.has
  refine ⟨⟨ys, h1.other fun g hg => k g (h1.lt hg).1 (h1.lt hg).2, h2, fun y hy => ⟨Ns.other (h3 y hy).1 hs fun q hq hl => k q ((h3 y hy).2 q hq).1 hl, fun q hq => ?_⟩⟩⟩
  have := (h3 y hy).2 q hq
  exact ⟨this.1, by omega, this.2.2⟩
theorem Rows.later {w w' : World} {B : Nat} {v : Value} {l : List Rec} (h : Rows w B v l) (k : Below w.heap.size w w') : Rows w' B v l := h.other k.size fun g _ hg => k.block g hg
theorem Rows.base {w : World} {B B' : Nat} {v : Value} {l : List Rec} (h : Rows w B v l) (k : B' ≤ B) : Rows w B' v l := by
  obtain ⟨ys, h1, h2, h3⟩ := h.has
  refine ⟨⟨ys, h1.base k, h2, fun y hy => ⟨(h3 y hy).1, fun q hq => ?_⟩⟩⟩
  have := (h3 y hy).2 q hq
  exact ⟨by omega, this.2⟩
/-- append(l, y), y a copy. -/
theorem Rows.app {w : World} {B r : Nat} {v : Value} {l : List Rec} {x : Rd} (hr : Hid (l.length = r)) (h : Rows w B v l) (hx : Ns w x.dv x.r.d) (hq : ∀ q, x.dv.ownBlock = some q → B ≤ q ∧ q < w.heap.size ∧ v.ownBlock ≠ some q) (hlen : r + 1 ≤ 1000000) (hB : B ≤ w.heap.size) :
    ∃ a' c' w', (Builtin.append_ #[37, 37] 37 #[v, .slice (some ⟨w.heap.size, 0, none⟩) 1 1]).run Try.prog (w.alloc (box9 x)) = .ok (.slice a' (r + 1) c') w' ∧ Rows w' B (.slice a' (r + 1) c') (l ++ [x.r]) ∧ Below B w w' ∧ w.grownBy w' v.ownBlock := by
  obtain ⟨ys, h1, h2, h3⟩ := h.has
  have hal := (Below.refl w.heap.size w).alloc (Nat.le_refl _) (box9 x)
  obtain ⟨a', c', w', e1, e2, e3, e4⟩ := ORow.app (w := w.alloc (box9 x)) (r := r) (zs := ys) 37 (by have := hr.out; rw [← h2, List.length_map] at this; exact this) (h1.later hal) (R9.new w x) hlen (Nat.le_trans hB hal.size)
  have hg : w.grownBy w' v.ownBlock := ⟨e3.os.trans hal.os, e3.tape.trans hal.tape, e3.output.trans hal.output, Nat.le_trans hal.size e3.size, fun k hk hne => (e3.block k (Nat.lt_of_lt_of_le hk hal.size) hne).trans (hal.block k hk)⟩
  have hnew : ∀ q, q < w.heap.size → v.ownBlock ≠ some q → (Value.slice a' (r + 1) c').ownBlock ≠ some q := fun q hl hne e => by
    rcases e4 q e with k | k
    · exact hne k
    · simp only [World.size_alloc] at k; omega
  refine ⟨a', c', w', e1, ⟨⟨ys ++ [x], e2, by rw [List.map_append, h2]; rfl, fun y hy => ?_⟩⟩, ⟨hg.os, hg.tape, hg.output, hg.size, fun k hk => hg.block k (by omega) (fun e => by have := (h1.lt e.symm).1; omega)⟩, hg⟩
  have keep : ∀ z : Rd, Ns w z.dv z.r.d → (∀ q, z.dv.ownBlock = some q → B ≤ q ∧ q < w.heap.size ∧ v.ownBlock ≠ some q) → Ns w' z.dv z.r.d ∧ ∀ q, z.dv.ownBlock = some q → B ≤ q ∧ q < w'.heap.size ∧ (Value.slice a' (r + 1) c').ownBlock ≠ some q := fun z n1 n2 =>
    ⟨Ns.other n1 hg.size fun q hq hl => hg.block q hl (fun e => (n2 q hq).2.2 e.symm), fun q hq => ⟨(n2 q hq).1, Nat.lt_of_lt_of_le (n2 q hq).2.1 hg.size, hnew q (n2 q hq).2.1 (n2 q hq).2.2⟩⟩
  rcases List.mem_append.1 hy with hy | hy
  · exact keep y (h3 y hy).1 (h3 y hy).2
  · rw [List.mem_singleton] at hy; subst hy; exact keep _ hx hq
def AllDone (l : List Rec) (w : World) (e : Ending) (w' : World) : Prop := ∃ v, e = .returned v ∧ Rows w' w.heap.size v l ∧ Below w.heap.size w w'
structure AlJ (w wr : World) (L : List Rec) (k : Nat) (v : Value) : Prop where
  row : Rows wr w.heap.size v (L.take k)
  bel : Below w.heap.size w wr
set_option maxHeartbeats 4000000 in
theorem allO_is {w : World} {B b : Nat} {kv v : Value} {zs : List Rd} {S : OS} (h : OAt w B b kv v zs S) : Calls Try.prog 24 #[.pointer (some ⟨b, 0, none⟩)] w (AllDone S.L w) := by
  have ka := all_is h
  obtain ⟨a0, c0, rfl⟩ := h.row.slice
  have HO := Lib.hid h
  have hlen := h.len
  have hl400 := h.good.l400
  obtain ⟨n, hn⟩ : ∃ n, zs.length = n := ⟨_, rfl⟩
  rw [hn] at ka hlen
  have HN := Lib.hid hn
  have HLN := Lib.hid hlen
  have h400 : n ≤ 400 := by omega
  have H0 := Lib.hid (show AlJ w w S.L 0 (.slice none 0 0) from ⟨by rw [List.take_zero]; exact Rows.nil _ _, Below.refl _ _⟩)
  clear h hlen hl400 hn
  go_enter Try.func24, Try.ntmps24
  go_wp2_with (go_at_call 38; (with_reducible refine ka.mono ?_); rintro e w1 ⟨rfl, rfl⟩)
  go_loopw [3, 9] (fun o i wr => ∃ k : Nat, k ≤ n ∧ i = .int .i64 (k : Int) ∧ Hid (AlJ w wr S.L k o)) (fun _ i _ => n - (intOf i).toNat)
  case atStart => exact ⟨0, by omega, rfl, H0⟩
  case round =>
    obtain ⟨k, hk, rfl, HJ⟩ := hrel
    clear H0
    by_cases hlt : k < n
    · have hlt2 : (k : Int) < (n : Int) := by omega
      have hkz : k < zs.length := by rw [HN.out]; exact hlt
      have hkL : k < S.L.length := by rw [← HLN.out]; exact hlt
      obtain ⟨g, off, rfl, -, -, hgl, hcs⟩ := ORow.cell HO.out.row (by omega)
      have hr9 := R9.later (hcs k hkz) HJ.out.bel
      obtain ⟨z, hz⟩ : ∃ z, zs[k] = z := ⟨_, rfl⟩
      have hzr : z.r = S.L[k] := by rw [← hz]; exact HO.out.get hkz hkL
      have hzn : Ns wr z.dv z.r.d := Ns.later (by rw [← hz]; exact HO.out.deps _ (List.getElem_mem hkz)) HJ.out.bel
      have hok := HO.out.good.ok z.r (by rw [hzr]; exact List.getElem_mem hkL)
      have hname := Rec.ok_name hok
      have hdl : z.r.d.length ≤ 1000000 := by
        have e := Rec.ok_plain hok
        unfold sameL at e
        have e := of_decide_eq_true e
        rw [e]
        have := vec_size (fun i => atL z.r.d (i : Int))
        unfold plainL; omega
      rw [hz] at hr9
      obtain ⟨⟨zk, zss, zt, zv, ztier, ⟨zc, zst, zq⟩, zd⟩, za, zcc⟩ := z
      unfold Rd.dv at hzn
      dsimp only at *
      have hal := (Below.refl wr.heap.size wr).alloc (Nat.le_refl _) (.cells #[.int .i64 zk, .string zss, .int .i64 zt, .int .i64 zv, .int .i64 ztier, .int .i64 zc, .int .i64 zst, .int .i64 zq, .slice za zd.length zcc] 33)
      have HAL := Lib.hid hal
      have ko := own_lit zk zt zv ztier zc zst zq zss zd za zcc _ (Ns.later hzn hal) (by omega) hdl
      have HT := Lib.hid (show S.L.take (k + 1) = S.L.take k ++ [⟨zk, zss, zt, zv, ztier, ⟨zc, zst, zq⟩, zd⟩] by rw [List.take_succ_eq_append_getElem hkL, hzr])
      have hml : (S.L.take k).length = k := by rw [List.length_take]; omega
      obtain ⟨af, cf, rfl⟩ := HJ.out.row.slice
      rw [hml] at HJ ⊢
      have HML := Lib.hid hml
      obtain ⟨x0, x1, x2, x3, x4, x5, x6, x7, x8⟩ := hr9
      dsimp only at *
      clear hcs hz hzr hzn hok hname hdl hal hml hgl
      go_wp2_with (first
        | (go_at_call 42; (with_reducible refine ko.mono ?_); rintro e w2 ⟨a2, c2, rfl, hn2, hb2, hf2⟩
           have HB2 := Lib.hid (bel_next HAL.out hb2)
           obtain ⟨a3, c3, w3, hrun, hrow, hb3, -⟩ := Rows.app (w := w2) (x := ⟨⟨zk, zss, zt, zv, ztier, ⟨zc, zst, zq⟩, zd⟩, a2, c2⟩) HML (HJ.out.row.later HB2.out) hn2 (fun q hq => by
             have := hf2 q hq
             have h5 := HAL.out.size
             have h6 := HJ.out.bel.size
             exact ⟨by omega, this.2, fun e => by have := (HJ.out.row.lt e).2; omega⟩) (by omega) (by have := HB2.out.size; have := HJ.out.bel.size; omega)
           have HR3 := Lib.hid (show AlJ w w3 S.L (k + 1) (.slice a3 (k + 1) c3) from ⟨by rw [HT.out]; exact hrow, (HJ.out.bel.trans (HB2.out.mono HJ.out.bel.size)).trans hb3⟩)
           clear hn2 hb2 hf2 hrow hb3)
        | (at_builtin; refine Lib.wpList_append_run _ rfl _ _ _ _ rfl _ _ rfl rfl _ _ hrun ?_))
      go_roundw
      case rel => exact ⟨k + 1, by omega, by go_num, HR3⟩
      case measure => simp [intOf]; omega
    · obtain rfl : k = n := by omega
      have hlt2 : ¬ (k : Int) < (k : Int) := by omega
      clear hlt
      have hR := HJ.out.row
      rw [List.take_of_length_le (by rw [HLN.out]; exact Nat.le_refl _)] at hR
      obtain ⟨af, cf, rfl⟩ := hR.slice
      have HR := Lib.hid hR
      clear hR
      go_wp2
      go_ret
      exact ⟨_, rfl, HR.out, HJ.out.bel⟩
theorem allL_is {w : World} {B b : Nat} {S : OS} {F : Nat → Prop} (h : LogAt w B b S F) : Calls Try.prog 24 #[.pointer (some ⟨b, 0, none⟩)] w (AllDone S.L w) := by
  obtain ⟨⟨kv, v, zs, hO, hf⟩, hF⟩ := h
  exact allO_is hO
end Go.Proofs.Ythbajlfkgbfkgaa.Og

/- Add. -/
import Derived.Test.YthbajlfkgbfkgaaOgTrim
import Derived.Test.YthbajlfkgbfkgaaSamplePCheck
import Derived.StillTailTactics
set_option maxRecDepth 20000
set_option linter.unusedSimpArgs false
set_option linter.unusedVariables false
namespace Go.Proofs.Ythbajlfkgbfkgaa.Og
open Go.RowKit Go.Proofs.Ythbajlfkgbfkgaa.Vi Go.Proofs.Ythbajlfkgbfkgaa.Mk

/-- A drawing region all of whose operations but the last ones leave the world. -/
theorem still_tail {P : Program} {id : Nat} {Q : Exit → Act → World → Prop} {a : Act} {w : World} {l : List Oper} (n : Nat) (hm : P.follows .mixedOrders = true) (hB : Region.lexTailB .any l.toArray n = true)
    (h : wpStill P l.toArray w.drew (fun a' => wpList P l.toArray Q (l.drop n) a' w.drew) (l.take n) a) : (Code.region id l.toArray true).wp P Q a w := wp_region_still_tail n hm hB h
theorem covers_quiet (v1 v2 : Value) (l1 l2 : List Int) (z : Bool) (hz : covL l1 l2 = z) (u : World) (n : Nat) (h1 : Ns u v1 l1) (h2 : Ns u v2 l2) :
    Calls Try.prog 41 #[v1, v2] (u.drewN n) fun e w' => e = .returned (.bool z) ∧ w' = u.drewN n :=
  (coversN v1 v2 l1 l2 _ (Ns.later h1 (below_drawn u n)) (Ns.later h2 (below_drawn u n))).mono fun _ _ ⟨e1, e2⟩ => ⟨by rw [← hz]; exact e1, e2.symm⟩
theorem add_nil (x : Rd) (w : World) : Calls Try.prog 20 #[.pointer none, recV x.r x.dv] w fun e w' => e = .returned (.int .i64 1) ∧ Below w.heap.size w w' := by
  have hal := (Below.refl w.heap.size w).alloc (Nat.le_refl _) (box9 x)
  obtain ⟨⟨zk, zss, zt, zv, ztier, ⟨zc, zst, zq⟩, zd⟩, za, zcc⟩ := x
  unfold recV Rd.dv at *
  dsimp only at *
  have HAL := Lib.hid hal
  clear hal
  go_enter Try.func20, Try.ntmps20
  go_wp2
  go_ret
  exact ⟨rfl, HAL.out⟩
def AddDone (w : World) (B b : Nat) (S : OS) (F : Nat → Prop) (r : Rec) (e : Ending) (w' : World) : Prop := e = .returned (.int .i64 (addE S r)) ∧ LogAt w' B b (addS S r) (grow F w w') ∧ FrF F w w'
theorem LogAt.kept {w w' : World} {B b : Nat} {S : OS} {F : Nat → Prop} (h : LogAt w B b S F) (k : Below w.heap.size w w') : LogAt w' B b S (grow F w w') :=
  (h.later k).mono (fun q hq => Or.inl hq) fun q hq => by
    have h1 := h.has
    have h2 := (h.fp b h1)
    rcases hq with hq | hq
    · exact ⟨(h.fp q hq).1, Nat.lt_of_lt_of_le (h.fp q hq).2 k.size⟩
    · exact ⟨by omega, hq.2⟩
/-- Behind the record's copy, appended: the log's parts, as they lie there. -/
structure AdM (w W : World) (B b : Nat) (kold kv v0 v cell2 : Value) (ck : Int) (zs : List Rd) (S : OS) (r : Rec) (K : List Int) : Prop where
  obj : W.heap[b]? = some (.cells #[.int .i64 S.room, kv, cell2, .int .i64 ck] 58 (0, 0))
  lt : b < w.heap.size
  lo : B ≤ b
  row : ∃ y : Rd, y.r = r ∧ ORow W B v (zs ++ [y]) ∧ Ns W y.dv r.d ∧ ∀ q, y.dv.ownBlock = some q → w.heap.size ≤ q ∧ q < W.heap.size ∧ v.ownBlock ≠ some q
  kn : Ns W kv K
  deps : ∀ x ∈ zs, Ns W x.dv x.r.d
  apk : ∀ q, kv.ownBlock = some q → B ≤ q ∧ q < W.heap.size ∧ q ≠ b ∧ v.ownBlock ≠ some q
  fpk : ∀ q, kv.ownBlock = some q → kold.ownBlock = some q ∨ w.heap.size ≤ q
  apd : ∀ x ∈ zs, ∀ q, x.dv.ownBlock = some q → q < B ∨ (q < w.heap.size ∧ q ≠ b ∧ v.ownBlock ≠ some q)
  new : ∀ q, v.ownBlock = some q → v0.ownBlock = some q ∨ w.heap.size ≤ q
  fr : FrF (fun q => q = b ∨ v0.ownBlock = some q) w W
  rs : zs.map Rd.r = S.L
  good : Good S
theorem AdM.c1 {w W : World} {B b : Nat} {kold kv v0 v cell2 : Value} {ck : Int} {zs : List Rd} {S : OS} {r : Rec} {K : List Int} (h : AdM w W B b kold kv v0 v cell2 ck zs S r K) : W.cell? ⟨b, 1, none⟩ = some kv := by rw [Joins.cell_of_block h.obj]; rfl
theorem AdM.c3 {w W : World} {B b : Nat} {kold kv v0 v cell2 : Value} {ck : Int} {zs : List Rd} {S : OS} {r : Rec} {K : List Int} (h : AdM w W B b kold kv v0 v cell2 ck zs S r K) : W.cell? ⟨b, 3, none⟩ = some (.int .i64 ck) := by rw [Joins.cell_of_block h.obj]; rfl
theorem AdM.vb {w W : World} {B b : Nat} {kold kv v0 v cell2 : Value} {ck : Int} {zs : List Rd} {S : OS} {r : Rec} {K : List Int} (h : AdM w W B b kold kv v0 v cell2 ck zs S r K) : ∀ q, v.ownBlock = some q → B ≤ q ∧ q < W.heap.size ∧ q ≠ b := by
  intro q hq
  obtain ⟨y, -, h1, -⟩ := h.row
  refine ⟨(h1.lt hq).1, (h1.lt hq).2, ?_⟩
  obtain ⟨-, cur, e⟩ := h1.typed hq
  rintro rfl
  rw [h.obj] at e
  injection e with e
  injection e with _ e _
  exact absurd e (by decide)
theorem AdM.made {w W4 W : World} {B b : Nat} {kv v0 v : Value} {zs : List Rd} {S : OS} {y : Rd} (hO : OAt w B b kv v0 zs S) (hb : Below w.heap.size w W4) (hrow : ORow W B v (zs ++ [y])) (hgr : W4.grownBy W v0.ownBlock) (hnew : ∀ k, v.ownBlock = some k → v0.ownBlock = some k ∨ W4.heap.size ≤ k)
    (hy : Ns W4 y.dv y.r.d) (hyq : ∀ q, y.dv.ownBlock = some q → w.heap.size ≤ q ∧ q < W4.heap.size) : AdM w W B b kv kv v0 v v0 S.clock zs S y.r S.know := by
  have hvb : ∀ q, v0.ownBlock = some q → q < w.heap.size ∧ q ≠ b := fun q hq => by
    refine ⟨(hO.row.lt hq).2, ?_⟩
    obtain ⟨-, cur, e⟩ := hO.row.typed hq
    rintro rfl
    rw [hO.obj] at e
    injection e with e
    injection e with _ e _
    exact absurd e (by decide)
  have same : ∀ q, q < W4.heap.size → v0.ownBlock ≠ some q → W.heap[q]? = W4.heap[q]? := fun q hq hne => hgr.block q hq (fun e => hne e.symm)
  have same2 : ∀ q, q < w.heap.size → v0.ownBlock ≠ some q → W.heap[q]? = w.heap[q]? := fun q hq hne => (same q (Nat.lt_of_lt_of_le hq hb.size) hne).trans (hb.block q hq)
  have hsz : w.heap.size ≤ W.heap.size := Nat.le_trans hb.size hgr.size
  have vne : ∀ q, q < w.heap.size → v0.ownBlock ≠ some q → v.ownBlock ≠ some q := fun q hq hne e => by
    rcases hnew q e with k | k
    · exact hne k
    · have := hb.size; omega
  refine ⟨(same2 b hO.lt (fun e => (hvb b e).2 rfl)).trans hO.obj, hO.lt, hO.lo, ⟨y, rfl, hrow, Ns.other hy hgr.size (fun q hq hl => same q hl (fun e => by have := (hvb q e).1; have := (hyq q hq).1; omega)), fun q hq => ⟨(hyq q hq).1, Nat.lt_of_lt_of_le (hyq q hq).2 hgr.size, fun e => ?_⟩⟩,
    Ns.other hO.kn hsz (fun q hq hl => same2 q hl (hO.apk q hq).2.2.2), fun x hx => ?_, fun q hq => ?_, fun q hq => Or.inl hq, fun x hx q hq => ?_, fun q hq => ?_, ?_, hO.rs, hO.good⟩
  · rcases hnew q e with k | k
    · have := (hvb q k).1; have := (hyq q hq).1; omega
    · have := (hyq q hq).2; omega
  · refine Ns.other (hO.deps x hx) hsz fun q hq hl => same2 q hl fun e => ?_
    rcases hO.apd x hx q hq with k | ⟨_, _, k⟩
    · have := (hO.row.lt e).1; omega
    · exact k e
  · have := hO.apk q hq
    exact ⟨this.1, by omega, this.2.2.1, vne q this.2.1 this.2.2.2⟩
  · rcases hO.apd x hx q hq with k | ⟨k0, k1, k2⟩
    · exact Or.inl k
    · exact Or.inr ⟨k0, k1, vne q k0 k2⟩
  · rcases hnew q hq with k | k
    · exact Or.inl k
    · have := hb.size; exact Or.inr (by omega)
  · exact ⟨hgr.os.trans hb.os, hgr.tape.trans hb.tape, hgr.output.trans hb.output, hsz, fun k hk hne => same2 k hk (fun e => hne (Or.inr e))⟩
theorem AdM.later {w W W' : World} {B b : Nat} {kold kv v0 v cell2 : Value} {ck : Int} {zs : List Rd} {S : OS} {r : Rec} {K : List Int} (h : AdM w W B b kold kv v0 v cell2 ck zs S r K) (k : Below W.heap.size W W') : AdM w W' B b kold kv v0 v cell2 ck zs S r K := by
  obtain ⟨y, h1, h2, h3, h4⟩ := h.row
  have hs := k.size
  exact ⟨(k.block b (by have := h.lt; have := h.fr.size; omega)).trans h.obj, h.lt, h.lo, ⟨y, h1, h2.later k, Ns.later h3 k, fun q hq => ⟨(h4 q hq).1, Nat.lt_of_lt_of_le (h4 q hq).2.1 hs, (h4 q hq).2.2⟩⟩, Ns.later h.kn k, fun x hx => Ns.later (h.deps x hx) k,
    fun q hq => ⟨(h.apk q hq).1, Nat.lt_of_lt_of_le (h.apk q hq).2.1 hs, (h.apk q hq).2.2⟩, h.fpk, h.apd, h.new, FrF.next h.fr (FrF.of k) (fun q _ e => e), h.rs, h.good⟩
/-- A cell of the log itself is stored. -/
theorem AdM.cell {w W : World} {B b : Nat} {kold kv v0 v cell2 : Value} {ck : Int} {zs : List Rd} {S : OS} {r : Rec} {K : List Int} (h : AdM w W B b kold kv v0 v cell2 ck zs S r K) (o : Nat) (z : Value) :
    (∃ y : Rd, y.r = r ∧ ORow (W.setCell ⟨b, o, none⟩ z) B v (zs ++ [y]) ∧ Ns (W.setCell ⟨b, o, none⟩ z) y.dv r.d ∧ ∀ q, y.dv.ownBlock = some q → w.heap.size ≤ q ∧ q < (W.setCell ⟨b, o, none⟩ z).heap.size ∧ v.ownBlock ≠ some q) ∧
    (∀ x ∈ zs, Ns (W.setCell ⟨b, o, none⟩ z) x.dv x.r.d) ∧ FrF (fun q => q = b ∨ v0.ownBlock = some q) w (W.setCell ⟨b, o, none⟩ z) ∧ (∀ u l, Ns W u l → (∀ q, u.ownBlock = some q → q ≠ b) → Ns (W.setCell ⟨b, o, none⟩ z) u l) := by
  have hns : ∀ u l, Ns W u l → (∀ q, u.ownBlock = some q → q ≠ b) → Ns (W.setCell ⟨b, o, none⟩ z) u l := fun u l hu hq => Ns.other hu (by simp) fun q hqq _ => World.heap_setCell_off W b o z q (hq q hqq)
  obtain ⟨y, h1, h2, h3, h4⟩ := h.row
  refine ⟨⟨y, h1, h2.other fun q hq => World.heap_setCell_off W b o z q (h.vb q hq).2.2, hns _ _ h3 (fun q hq => by have := (h4 q hq).1; have := h.lt; omega), fun q hq => ⟨(h4 q hq).1, by simp only [World.size_setCell]; exact (h4 q hq).2.1, (h4 q hq).2.2⟩⟩,
    fun x hx => hns _ _ (h.deps x hx) (fun q hq => by
      rcases h.apd x hx q hq with k | k
      · have := h.lo; omega
      · exact k.2.1), ?_, hns⟩
  exact ⟨h.fr.os, h.fr.tape, h.fr.output, by simp only [World.size_setCell]; exact h.fr.size, fun q hq hne => (World.heap_setCell_off W b o z q (fun e => hne (Or.inl e))).trans (h.fr.block q hq hne)⟩
theorem AdM.set2 {w W : World} {B b : Nat} {kold kv v0 v cell2 : Value} {ck : Int} {zs : List Rd} {S : OS} {r : Rec} {K : List Int} (h : AdM w W B b kold kv v0 v cell2 ck zs S r K) : AdM w (W.setCell ⟨b, 2, none⟩ v) B b kold kv v0 v v ck zs S r K := by
  obtain ⟨h1, h2, h3, h4⟩ := h.cell 2 v
  exact ⟨Joins.block_setCell (i := 2) h.obj v, h.lt, h.lo, h1, h4 _ _ h.kn (fun q hq => (h.apk q hq).2.2.1), h2, fun q hq => by have := h.apk q hq; exact ⟨this.1, by simp only [World.size_setCell]; exact this.2.1, this.2.2⟩, h.fpk, h.apd, h.new, h3, h.rs, h.good⟩
theorem AdM.set1 {w W : World} {B b : Nat} {kold kv v0 v cell2 : Value} {ck : Int} {zs : List Rd} {S : OS} {r : Rec} {K : List Int} (h : AdM w W B b kold kv v0 v cell2 ck zs S r K) (u : Value) {L : List Int} (hu : Ns W u L) (hq : ∀ q, u.ownBlock = some q → w.heap.size ≤ q ∧ q < W.heap.size ∧ v.ownBlock ≠ some q) : AdM w (W.setCell ⟨b, 1, none⟩ u) B b kold u v0 v cell2 ck zs S r L := by
  obtain ⟨h1, h2, h3, h4⟩ := h.cell 1 u
  have hlt := h.lt
  have hlo := h.lo
  exact ⟨Joins.block_setCell (i := 1) h.obj u, h.lt, h.lo, h1, h4 _ _ hu (fun q k => by have := (hq q k).1; omega), h2, fun q k => by have := hq q k; exact ⟨by omega, by simp only [World.size_setCell]; exact this.2.1, by omega, this.2.2⟩, fun q k => Or.inr (hq q k).1, h.apd, h.new, h3, h.rs, h.good⟩
theorem AdM.done {w W : World} {B b : Nat} {kold kv v0 v : Value} {ck : Int} {zs : List Rd} {S : OS} {r : Rec} {F : Nat → Prop} (h : AdM w W B b kold kv v0 v v S.clock zs S r (withL S.know r.st.s r.st.q)) (hf : ∀ q, fpO B b kold v0 zs q → F q) (hF : ∀ q, F q → B ≤ q ∧ q < w.heap.size) (he : addE S r = 0) (hck : ck = max S.clock r.st.c) :
    LogAt (W.setCell ⟨b, 3, none⟩ (.int .i64 ck)) B b ⟨S.room, S.base, S.L ++ [r], max S.clock r.st.c⟩ (grow F w (W.setCell ⟨b, 3, none⟩ (.int .i64 ck))) ∧ FrF F w (W.setCell ⟨b, 3, none⟩ (.int .i64 ck)) := by
  subst hck
  obtain ⟨⟨y, h1, h2, h3, h4⟩, h5, h6, h7⟩ := h.cell 3 (.int .i64 (max S.clock r.st.c))
  have hobj := Joins.block_setCell (i := 3) h.obj (.int .i64 (max S.clock r.st.c))
  have hsz : (W.setCell ⟨b, 3, none⟩ (.int .i64 (max S.clock r.st.c))).heap.size = W.heap.size := by simp
  have hlt := h.lt
  have hlo := h.lo
  have hgood := h.good.add r
  rw [addS_yes he] at hgood
  have hfrs := h.fr.size
  refine ⟨⟨⟨kv, v, zs ++ [y], ⟨hobj, h.lo, h2, ?_, fun x hx => ?_, fun q hq => ?_, fun x hx q hq => ?_, ?_, hgood⟩, fun q hq => ?_⟩, fun q hq => ?_⟩, h6.mono fun q hq => hf q (hq.elim (fun e => Or.inl e) (fun e => Or.inr (Or.inl e)))⟩
  · have := h7 _ _ h.kn (fun q hq => (h.apk q hq).2.2.1)
    show Ns _ kv (knowL S.base (S.L ++ [r]))
    rw [know_snoc]; exact this
  · rcases List.mem_append.1 hx with hx | hx
    · exact h5 x hx
    · rw [List.mem_singleton] at hx; subst hx; rw [h1]; exact h3
  · have := h.apk q hq
    exact ⟨this.1, by rw [hsz]; exact this.2.1, this.2.2⟩
  · rcases List.mem_append.1 hx with hx | hx
    · exact (h.apd x hx q hq).imp id fun k => ⟨by rw [hsz]; omega, k.2⟩
    · rw [List.mem_singleton] at hx; subst hx
      have := h4 q hq
      exact Or.inr ⟨this.2.1, by omega, this.2.2⟩
  · rw [List.map_append, h.rs, List.map_singleton, h1]
  · rcases hq with e | e | e | ⟨x, hx, e, hBq⟩
    · exact Or.inl (hf q (Or.inl e))
    · rcases h.new q e with k | k
      · exact Or.inl (hf q (Or.inr (Or.inl k)))
      · exact Or.inr ⟨k, by rw [hsz]; exact (h.vb q e).2.1⟩
    · rcases h.fpk q e with k | k
      · exact Or.inl (hf q (Or.inr (Or.inr (Or.inl k))))
      · exact Or.inr ⟨k, by rw [hsz]; exact (h.apk q e).2.1⟩
    · rcases List.mem_append.1 hx with hx | hx
      · exact Or.inl (hf q (Or.inr (Or.inr (Or.inr ⟨x, hx, e, hBq⟩))))
      · rw [List.mem_singleton] at hx; subst hx
        have := h4 q e
        exact Or.inr ⟨this.1, this.2.1⟩
  · rcases hq with hq | hq
    · have := hF q hq; exact ⟨this.1, by rw [hsz]; omega⟩
    · exact ⟨by omega, hq.2⟩
set_option maxHeartbeats 8000000 in
theorem add_is {w : World} {B b : Nat} {S : OS} {F : Nat → Prop} (h : LogAt w B b S F) (x : Rd) (hN : Ns w x.dv x.r.d) (hf : x.r.fits) (hsz : x.r.s.size ≤ 100000) (hdl : x.r.d.length ≤ 1000000) : Calls Try.prog 20 #[.pointer (some ⟨b, 0, none⟩), recV x.r x.dv] w (AddDone w B b S F x.r) := by
  have HH := Lib.hid h
  obtain ⟨⟨kv, v, zs, hO, hfo⟩, hF⟩ := h
  have hal := (Below.refl w.heap.size w).alloc (Nat.le_refl _) (box9 x)
  have HAL := Lib.hid hal
  have kc := check6_is x.r x.dv (w.alloc (box9 x)) (Ns.later hN hal) hf
  have HN := Lib.hid (Ns.later hN hal)
  have HO := Lib.hid hO
  have hs := hf.ss
  have HBOX := Lib.hid (R9.new w x)
  have kat := fun (W : World) (hW : Below w.heap.size w W) (n : Nat) => at_quietN kv S.know x.r.st.s W n (Ns.later hO.kn hW) hs
  have kco := fun (W : World) (hW : Below w.heap.size w W) (hD : Ns W x.dv x.r.d) (n : Nat) => covers_quiet kv x.dv S.know x.r.d _ rfl W n (Ns.later hO.kn hW) hD
  have HKAT := Lib.hid kat
  have HKCO := Lib.hid kco
  have ha := atL_bounds S.know x.r.st.s
  have HREST := Lib.hid (And.intro hfo hF)
  obtain ⟨ka, kc2, rfl⟩ := hO.kn.slice
  obtain ⟨⟨zk, zss, zt, zv, ztier, ⟨zc, zst, zq⟩, zd⟩, za, zcc⟩ := x
  unfold recV Rd.dv at *
  dsimp only at *
  by_cases hok : Rec.ok ⟨zk, zss, zt, zv, ztier, ⟨zc, zst, zq⟩, zd⟩ = true
  · rw [show Rec.err ⟨zk, zss, zt, zv, ztier, ⟨zc, zst, zq⟩, zd⟩ = 0 from Rec.err_ok.2 hok] at kc
    obtain ⟨y, hy⟩ : ∃ y, atL S.know zst = y := ⟨_, rfl⟩
    rw [hy] at HKAT ha
    have hwr : IntKind.i64.wrap (y + 1) = y + 1 := by rw [IntKind.wrap_i64]; omega
    have HOK := Lib.hid hok
    have HY := Lib.hid hy
    by_cases hq : zq = y + 1
    · have e1 : (zq == y + 1) = true := by simpa using hq
      have e1' : (zq != y + 1) = false := by simp [hq]
      by_cases hcov : covL S.know zd = true
      · by_cases hroom : S.room - (S.L.length : Int) = 0
        · have kr := fun (W : World) (hW : Below w.heap.size w W) => roomO_is (hO.later hW)
          rw [hroom] at kr
          have HE := Lib.hid (addE_full (S := S) hok ⟨by dsimp only; rw [hy]; exact hq, hcov⟩ hroom)
          rw [hcov] at HKCO
          clear hO hN hal hf hs kat kco hok hy hfo hF hsz hdl hq hcov ha hroom
          go_enter Try.func20, Try.ntmps20
          go_wp2_with (go_at_call 45; (with_reducible refine kc.mono ?_); rintro e w1 ⟨rfl, hb1⟩; (have HB1 := Lib.hid (bel_next HAL.out hb1)); (have HN1 := Lib.hid (Ns.later HN.out hb1)); (obtain ⟨y0, y1, y2, y3, y4, y5, y6, y7, y8⟩ := HBOX.out.later hb1); dsimp only at y0 y1 y2 y3 y4 y5 y6 y7 y8; (have c1 := (HO.out.later HB1.out).c1); clear hb1)
          go_quiet (first
            | (go_at_call 36; with_reducible refine Calls.quiet_of_same (HKAT.out _ HB1.out _))
            | (go_at_call 41; with_reducible refine Calls.quiet_of_same (HKCO.out _ HB1.out HN1.out _)))
          go_wp2_with (go_at_call 30; (with_reducible refine (kr _ (below_drewN HB1.out _)).mono ?_); rintro e w2 ⟨rfl, hb2⟩; (have HB2 := Lib.hid (bel_next (below_drewN HB1.out _) hb2)); clear hb2)
          go_ret
          refine ⟨by rw [HE.out]; rfl, ?_, FrF.of HB2.out⟩
          rw [addS_no (by rw [HE.out]; decide)]
          exact HH.out.kept HB2.out
        · -- it is added
          have kr := fun (W : World) (hW : Below w.heap.size w W) => roomO_is (hO.later hW)
          obtain ⟨rm, hrm⟩ : ∃ rm, S.room - (S.L.length : Int) = rm := ⟨_, rfl⟩
          rw [hrm] at kr hroom
          have hrm0 : (rm == 0) = false := by simpa using hroom
          have HE := Lib.hid (addE_yes (S := S) hok ⟨by dsimp only; rw [hy]; exact hq, hcov⟩ (by rw [hrm]; exact hroom))
          rw [hcov] at HKCO
          obtain ⟨a0, c0, rfl⟩ := hO.row.slice
          have hlen := hO.len
          have h400 := hO.good.l400
          obtain ⟨n, hn⟩ : ∃ n, zs.length = n := ⟨_, rfl⟩
          have HNL := Lib.hid hn
          have hn4 : n ≤ 400 := by omega
          have HKO := Lib.hid (fun (W : World) (hW : Ns W (.slice za zd.length zcc) zd) => own_lit zk zt zv ztier zc zst zq zss zd za zcc W hW hsz hdl)
          have HWT := Lib.hid (fun (W : World) (v1 : Value) (h1 : Ns W v1 S.know) => withF_is v1 S.know zst zq _ W h1)
          have HLT := Lib.hid hO.lt
          clear hO hN hal hf hs kat kco hok hy hfo hF hsz hdl hq hcov ha hroom hlen h400 hrm
          go_enter Try.func20, Try.ntmps20
          go_wp2_with (go_at_call 45; (with_reducible refine kc.mono ?_); rintro e w1 ⟨rfl, hb1⟩; (have HB1 := Lib.hid (bel_next HAL.out hb1)); (have HBA := Lib.hid hb1); (have HN1 := Lib.hid (Ns.later HN.out hb1)); (obtain ⟨y0, y1, y2, y3, y4, y5, y6, y7, y8⟩ := HBOX.out.later hb1); dsimp only at y0 y1 y2 y3 y4 y5 y6 y7 y8; (have c1 := (HO.out.later HB1.out).c1); clear hb1)
          go_quiet (first
            | (go_at_call 36; with_reducible refine Calls.quiet_of_same (HKAT.out _ HB1.out _))
            | (go_at_call 41; with_reducible refine Calls.quiet_of_same (HKCO.out _ HB1.out HN1.out _)))
          go_wp2_with (first
            | (go_at_call 30; (with_reducible refine (kr _ (below_drewN HB1.out _)).mono ?_); rintro e w2 ⟨rfl, hb2⟩
               have HB2 := Lib.hid (bel_next (below_drewN HB1.out _) hb2)
               have hbx := bel_next (below_drewN HBA.out _) hb2
               have HBX := Lib.hid hbx
               obtain ⟨z0, z1, z2, z3, z4, z5, z6, z7, z8⟩ := HBOX.out.later hbx
               dsimp only at z0 z1 z2 z3 z4 z5 z6 z7 z8
               have HO2 := Lib.hid (HO.out.later HB2.out)
               have c2 := HO2.out.c2
               rw [hn] at c2
               clear hb2 hbx hn y0 y1 y2 y3 y4 y5 y6 y7 y8 c1))
          refine wp_region_held_drew (S := (fun X : World => R9 X w.heap.size 0 ⟨⟨zk, zss, zt, zv, ztier, ⟨zc, zst, zq⟩, zd⟩, za, zcc⟩)) (by kernel_rfl) (R9.later (HBOX.out.later HBX.out) (Below.refl _ _).drew) (fun hHeld => ?_)
          refine wpAnyH_take (i := 0) (oi := ?o1o) (v := ?o1v) ?o1h (by kernel_rfl) (by kernel_rfl) (by kernel_rfl) ?o1q ?o1y hHeld ?o1r
          case o1h => (simp only [List.getElem?_toArray, List.getElem?_cons_zero]; rfl)
          case o1q => exact fun _ _ _ h => h
          case o1y => (refine Or.inl ⟨by first | kernel_rfl | rfl, ?_⟩; intro w hSw; (try dsimp only at hSw); obtain ⟨q0, q1, q2, q3, q4, q5, q6, q7, q8⟩ := hSw; dsimp only at q0 q1 q2 q3 q4 q5 q6 q7 q8; go_simp <;> (try with_reducible rfl))
          try simp only [Act.put, List.setIfInBounds_toArray, List.set_cons_zero, List.set_cons_succ]
          refine wpAnyH_take (i := 1) (oi := ?o2o) (v := ?o2v) ?o2h (by kernel_rfl) (by kernel_rfl) (by kernel_rfl) ?o2q ?o2y hHeld ?o2r
          case o2h => (simp only [List.getElem?_toArray, List.getElem?_cons_succ, List.getElem?_cons_zero]; rfl)
          case o2q => exact fun _ _ _ h => h
          case o2y => (refine Or.inl ⟨by first | kernel_rfl | rfl, ?_⟩; intro w hSw; (try dsimp only at hSw); obtain ⟨q0, q1, q2, q3, q4, q5, q6, q7, q8⟩ := hSw; dsimp only at q0 q1 q2 q3 q4 q5 q6 q7 q8; go_simp <;> (try with_reducible rfl))
          try simp only [Act.put, List.setIfInBounds_toArray, List.set_cons_zero, List.set_cons_succ]
          refine wpAnyH_take (i := 2) (oi := ?o3o) (v := ?o3v) ?o3h (by kernel_rfl) (by kernel_rfl) (by kernel_rfl) ?o3q ?o3y hHeld ?o3r
          case o3h => (simp only [List.getElem?_toArray, List.getElem?_cons_succ, List.getElem?_cons_zero]; rfl)
          case o3q => exact fun _ _ _ h => h
          case o3y => (refine Or.inl ⟨by first | kernel_rfl | rfl, ?_⟩; intro w hSw; (try dsimp only at hSw); obtain ⟨q0, q1, q2, q3, q4, q5, q6, q7, q8⟩ := hSw; dsimp only at q0 q1 q2 q3 q4 q5 q6 q7 q8; go_simp <;> (try with_reducible rfl))
          try simp only [Act.put, List.setIfInBounds_toArray, List.set_cons_zero, List.set_cons_succ]
          refine wpAnyH_take (i := 3) (oi := ?o4o) (v := ?o4v) ?o4h (by kernel_rfl) (by kernel_rfl) (by kernel_rfl) ?o4q ?o4y hHeld ?o4r
          case o4h => (simp only [List.getElem?_toArray, List.getElem?_cons_succ, List.getElem?_cons_zero]; rfl)
          case o4q => exact fun _ _ _ h => h
          case o4y => (refine Or.inl ⟨by first | kernel_rfl | rfl, ?_⟩; intro w hSw; (try dsimp only at hSw); obtain ⟨q0, q1, q2, q3, q4, q5, q6, q7, q8⟩ := hSw; dsimp only at q0 q1 q2 q3 q4 q5 q6 q7 q8; go_simp <;> (try with_reducible rfl))
          try simp only [Act.put, List.setIfInBounds_toArray, List.set_cons_zero, List.set_cons_succ]
          refine wpAnyH_take (i := 5) (oi := ?o5o) (v := ?o5v) ?o5h (by kernel_rfl) (by kernel_rfl) (by kernel_rfl) ?o5q ?o5y hHeld ?o5r
          case o5h => (simp only [List.getElem?_toArray, List.getElem?_cons_succ, List.getElem?_cons_zero]; rfl)
          case o5q => exact fun _ _ _ h => h
          case o5y => (refine Or.inl ⟨by first | kernel_rfl | rfl, ?_⟩; intro w hSw; (try dsimp only at hSw); obtain ⟨q0, q1, q2, q3, q4, q5, q6, q7, q8⟩ := hSw; dsimp only at q0 q1 q2 q3 q4 q5 q6 q7 q8; go_simp <;> (try with_reducible rfl))
          try simp only [Act.put, List.setIfInBounds_toArray, List.set_cons_zero, List.set_cons_succ]
          refine wpAnyH_ready (rs := [4, 6]) (by kernel_rfl) (by simp) ?_
          refine (AllReadyH.cons rfl (fun K hK => ?_) (AllReadyH.cons rfl (fun K hK => ?_) AllReadyH.nil))
          ·
            go_simp
            skip
            refine hK.out _ _ (hHeld) (fun hHeld => ?_)
            clear hK K
            try simp only [Act.put, List.setIfInBounds_toArray, List.set_cons_zero, List.set_cons_succ]
            refine wpAnyH_ready (rs := [6]) (by kernel_rfl) (by simp) ?_
            refine (AllReadyH.cons rfl (fun K hK => ?_) AllReadyH.nil)
            go_simp
            (go_at_call 42; (with_reducible refine (HKO.out _ (Ns.later (Ns.later HN.out HBX.out) (Below.refl _ _).drew)).mono ?_); rintro e w3 ⟨a2, c2', rfl, hn3, hb3, hf3⟩; (have hbw : Below w.heap.size w w3 := bel_next HB2.out.drew hb3); (have hO3 := HO.out.later hbw); (have hal3 := (Below.refl w3.heap.size w3).alloc (Nat.le_refl _) (box9 ⟨⟨zk, zss, zt, zv, ztier, ⟨zc, zst, zq⟩, zd⟩, a2, c2'⟩)); (obtain ⟨a5, c5, w5, hrun, hrow, hgr, hnew⟩ := ORow.app (w := w3.alloc (box9 ⟨⟨zk, zss, zt, zv, ztier, ⟨zc, zst, zq⟩, zd⟩, a2, c2'⟩)) (B := B) (r := n) (N := w3.heap.size) (zs := zs) (v := .slice a0 n c0) (y := ⟨⟨zk, zss, zt, zv, ztier, ⟨zc, zst, zq⟩, zd⟩, a2, c2'⟩) 37 HNL.out (by have h7 := hO3.row.later hal3; rw [HNL.out] at h7; exact h7) (R9.new _ _) (by omega) (by have h8 := hO3.lo; have h9 := hO3.lt; have h10 := hal3.size; omega)); (have hO0 := HO.out); (rw [HNL.out] at hO0); (have hD := AdM.made hO0 (Below.trans hbw (hal3.mono hbw.size)) hrow hgr hnew (Ns.later hn3 hal3) (fun q hq => ⟨by have h8 := (hf3 q hq).1; have h9 := HB2.out.size; simp only [World.size_drew] at h8; omega, Nat.lt_of_lt_of_le (hf3 q hq).2 hal3.size⟩)); (have HD := Lib.hid hD); (have hob5 := hD.obj); (have hc25 : w5.cell? ⟨b, 2, none⟩ = some (.slice a0 n c0) := by rw [Joins.cell_of_block hob5]; rfl); (have hf25 : w5.frozen? ⟨b, 2, none⟩ = false := Joins.unfrozen_of_block hob5 _); (have hbx5 := (R9.later (R9.later (HBOX.out.later HBX.out) ((Below.refl _ _).drew)) hb3).later hal3); (have HBX3 := Lib.hid (R9.later (R9.later (HBOX.out.later HBX.out) ((Below.refl _ _).drew)) hb3)); (have HBX4 := Lib.hid hbx5); (have c23 := (HO.out.later hbw).c2); (rw [HNL.out] at c23); (have c24 : (w3.alloc (.cells #[.int .i64 zk, .string zss, .int .i64 zt, .int .i64 zv, .int .i64 ztier, .int .i64 zc, .int .i64 zst, .int .i64 zq, .slice a2 zd.length c2'] 33)).cell? ⟨b, 2, none⟩ = some (.slice a0 n c0) := by (have h8 := (HO.out.later (Below.trans hbw (hal3.mono hbw.size))).c2; rw [HNL.out] at h8; exact h8)); (have HBX5 := Lib.hid (R9.other hbx5 (hgr.block _ hbx5.room (fun e => by have h8 := (hO0.row.lt (k := w.heap.size) e.symm).2; omega)))); (clear hbw hO3 hO0 hal3 hrow hgr hnew hn3 hb3 hf3 hD hob5 hbx5))
            refine hK.out _ _ (HBX3.out) (fun hHeld => ?_)
            clear hK K
            try simp only [Act.put, List.setIfInBounds_toArray, List.set_cons_zero, List.set_cons_succ]
            refine wpAnyH_ready (rs := [7]) (by kernel_rfl) (by simp) ?_
            refine (AllReadyH.cons rfl (fun K hK => ?_) AllReadyH.nil)
            go_simp
            skip
            refine hK.out _ _ (HBX4.out) (fun hHeld => ?_)
            clear hK K
            try simp only [Act.put, List.setIfInBounds_toArray, List.set_cons_zero, List.set_cons_succ]
            refine wpAnyH_ready (rs := [8]) (by kernel_rfl) (by simp) ?_
            refine (AllReadyH.cons rfl (fun K hK => ?_) AllReadyH.nil)
            refine (if_pos (by kernel_rfl)).mpr ?_
            refine Lib.wp_append_run _ _ _ _ _ rfl _ _ rfl rfl _ _ hrun ?_
            refine hK.out _ _ (HBX5.out) (fun hHeld => ?_)
            clear hK K
            try simp only [Act.put, List.setIfInBounds_toArray, List.set_cons_zero, List.set_cons_succ]
            refine wpAnyH_take (i := 9) (oi := ?o6o) (v := ?o6v) ?o6h (by kernel_rfl) (by kernel_rfl) (by kernel_rfl) ?o6q ?o6y hHeld ?o6r
            case o6h => (simp only [List.getElem?_toArray, List.getElem?_cons_succ, List.getElem?_cons_zero]; rfl)
            case o6q => exact fun _ _ _ h => h
            case o6y => (refine Or.inl ⟨by first | kernel_rfl | rfl, ?_⟩; intro w hSw; (try dsimp only at hSw); obtain ⟨q0, q1, q2, q3, q4, q5, q6, q7, q8⟩ := hSw; dsimp only at q0 q1 q2 q3 q4 q5 q6 q7 q8; go_simp <;> (try with_reducible rfl))
            try simp only [Act.put, List.setIfInBounds_toArray, List.set_cons_zero, List.set_cons_succ]
            refine wpAnyH_take (i := 10) (oi := ?o7o) (v := ?o7v) ?o7h (by kernel_rfl) (by kernel_rfl) (by kernel_rfl) ?o7q ?o7y hHeld ?o7r
            case o7h => (simp only [List.getElem?_toArray, List.getElem?_cons_succ, List.getElem?_cons_zero]; rfl)
            case o7q => exact fun _ _ _ h => h
            case o7y => (refine Or.inl ⟨by first | kernel_rfl | rfl, ?_⟩; intro w hSw; (try dsimp only at hSw); obtain ⟨q0, q1, q2, q3, q4, q5, q6, q7, q8⟩ := hSw; dsimp only at q0 q1 q2 q3 q4 q5 q6 q7 q8; go_simp <;> (try with_reducible rfl))
            try simp only [Act.put, List.setIfInBounds_toArray, List.set_cons_zero, List.set_cons_succ]
            refine wpAnyH_ready (rs := [11]) (by kernel_rfl) (by simp) ?_
            refine (AllReadyH.cons rfl (fun K hK => ?_) AllReadyH.nil)
            go_simp
            skip
            refine hK.out _ _ (R9.other HBX5.out (World.heap_setCell_off w5 b 2 (.slice a5 (n + 1) c5) w.heap.size (by have h8 := HLT.out; omega))) (fun hHeld => ?_)
            clear hK K
            try simp only [Act.put]
            refine wpAnyH_done (by kernel_rfl) ?_ _
            have hM6 := HD.out.set2
            have HM6 := Lib.hid hM6
            have hb6 := R9.other HBX5.out (World.heap_setCell_off w5 b 2 (.slice a5 (n + 1) c5) w.heap.size (by have h8 := HLT.out; omega))
            obtain ⟨w6, hw6⟩ : ∃ x, w5.setCell ⟨b, 2, none⟩ (.slice a5 (n + 1) c5) = x := ⟨_, rfl⟩
            rw [hw6] at HM6 hb6 hM6 ⊢
            have HBX6 := Lib.hid hb6
            clear hb6
            have k1 := hM6.c1
            clear hM6 hw6 hrun hc25 hf25
            go_wp2_with fail
            refine wp_region_held_drew (S := (fun X : World => R9 X w.heap.size 0 ⟨⟨zk, zss, zt, zv, ztier, ⟨zc, zst, zq⟩, zd⟩, za, zcc⟩)) (by kernel_rfl) (R9.later HBX6.out (Below.refl _ _).drew) (fun hHeld => ?_)
            refine wpAnyH_take (i := 0) (oi := ?mx1o) (v := ?mx1v) ?mx1h (by kernel_rfl) (by kernel_rfl) (by kernel_rfl) ?mx1q ?mx1y hHeld ?mx1r
            case mx1h => (simp only [List.getElem?_toArray, List.getElem?_cons_zero]; rfl)
            case mx1q => exact fun _ _ _ h => h
            case mx1y => (refine Or.inl ⟨by first | kernel_rfl | rfl, ?_⟩; intro w hSw; (try dsimp only at hSw); obtain ⟨q0, q1, q2, q3, q4, q5, q6, q7, q8⟩ := hSw; dsimp only at q0 q1 q2 q3 q4 q5 q6 q7 q8; go_simp <;> (try with_reducible rfl))
            try simp only [Act.put, List.setIfInBounds_toArray, List.set_cons_zero, List.set_cons_succ]
            refine wpAnyH_take (i := 1) (oi := ?mx2o) (v := ?mx2v) ?mx2h (by kernel_rfl) (by kernel_rfl) (by kernel_rfl) ?mx2q ?mx2y hHeld ?mx2r
            case mx2h => (simp only [List.getElem?_toArray, List.getElem?_cons_succ, List.getElem?_cons_zero]; rfl)
            case mx2q => exact fun _ _ _ h => h
            case mx2y => (refine Or.inl ⟨by first | kernel_rfl | rfl, ?_⟩; intro w hSw; (try dsimp only at hSw); obtain ⟨q0, q1, q2, q3, q4, q5, q6, q7, q8⟩ := hSw; dsimp only at q0 q1 q2 q3 q4 q5 q6 q7 q8; go_simp <;> (try with_reducible rfl))
            try simp only [Act.put, List.setIfInBounds_toArray, List.set_cons_zero, List.set_cons_succ]
            refine wpAnyH_take (i := 2) (oi := ?mx3o) (v := ?mx3v) ?mx3h (by kernel_rfl) (by kernel_rfl) (by kernel_rfl) ?mx3q ?mx3y hHeld ?mx3r
            case mx3h => (simp only [List.getElem?_toArray, List.getElem?_cons_succ, List.getElem?_cons_zero]; rfl)
            case mx3q => exact fun _ _ _ h => h
            case mx3y => (refine Or.inl ⟨by first | kernel_rfl | rfl, ?_⟩; intro w hSw; (try dsimp only at hSw); obtain ⟨q0, q1, q2, q3, q4, q5, q6, q7, q8⟩ := hSw; dsimp only at q0 q1 q2 q3 q4 q5 q6 q7 q8; go_simp <;> (try with_reducible rfl))
            try simp only [Act.put, List.setIfInBounds_toArray, List.set_cons_zero, List.set_cons_succ]
            refine wpAnyH_take (i := 3) (oi := ?mx4o) (v := ?mx4v) ?mx4h (by kernel_rfl) (by kernel_rfl) (by kernel_rfl) ?mx4q ?mx4y hHeld ?mx4r
            case mx4h => (simp only [List.getElem?_toArray, List.getElem?_cons_succ, List.getElem?_cons_zero]; rfl)
            case mx4q => exact fun _ _ _ h => h
            case mx4y => (refine Or.inl ⟨by first | kernel_rfl | rfl, ?_⟩; intro w hSw; (try dsimp only at hSw); obtain ⟨q0, q1, q2, q3, q4, q5, q6, q7, q8⟩ := hSw; dsimp only at q0 q1 q2 q3 q4 q5 q6 q7 q8; go_simp <;> (try with_reducible rfl))
            try simp only [Act.put, List.setIfInBounds_toArray, List.set_cons_zero, List.set_cons_succ]
            refine wpAnyH_take (i := 5) (oi := ?mx5o) (v := ?mx5v) ?mx5h (by kernel_rfl) (by kernel_rfl) (by kernel_rfl) ?mx5q ?mx5y hHeld ?mx5r
            case mx5h => (simp only [List.getElem?_toArray, List.getElem?_cons_succ, List.getElem?_cons_zero]; rfl)
            case mx5q => exact fun _ _ _ h => h
            case mx5y => (refine Or.inl ⟨by first | kernel_rfl | rfl, ?_⟩; intro w hSw; (try dsimp only at hSw); obtain ⟨q0, q1, q2, q3, q4, q5, q6, q7, q8⟩ := hSw; dsimp only at q0 q1 q2 q3 q4 q5 q6 q7 q8; go_simp <;> (try with_reducible rfl))
            try simp only [Act.put, List.setIfInBounds_toArray, List.set_cons_zero, List.set_cons_succ]
            refine wpAnyH_take (i := 6) (oi := ?mx6o) (v := ?mx6v) ?mx6h (by kernel_rfl) (by kernel_rfl) (by kernel_rfl) ?mx6q ?mx6y hHeld ?mx6r
            case mx6h => (simp only [List.getElem?_toArray, List.getElem?_cons_succ, List.getElem?_cons_zero]; rfl)
            case mx6q => exact fun _ _ _ h => h
            case mx6y => (refine Or.inl ⟨by first | kernel_rfl | rfl, ?_⟩; intro w hSw; (try dsimp only at hSw); obtain ⟨q0, q1, q2, q3, q4, q5, q6, q7, q8⟩ := hSw; dsimp only at q0 q1 q2 q3 q4 q5 q6 q7 q8; go_simp <;> (try with_reducible rfl))
            try simp only [Act.put, List.setIfInBounds_toArray, List.set_cons_zero, List.set_cons_succ]
            refine wpAnyH_take (i := 7) (oi := ?mx7o) (v := ?mx7v) ?mx7h (by kernel_rfl) (by kernel_rfl) (by kernel_rfl) ?mx7q ?mx7y hHeld ?mx7r
            case mx7h => (simp only [List.getElem?_toArray, List.getElem?_cons_succ, List.getElem?_cons_zero]; rfl)
            case mx7q => exact fun _ _ _ h => h
            case mx7y => (refine Or.inl ⟨by first | kernel_rfl | rfl, ?_⟩; intro w hSw; (try dsimp only at hSw); obtain ⟨q0, q1, q2, q3, q4, q5, q6, q7, q8⟩ := hSw; dsimp only at q0 q1 q2 q3 q4 q5 q6 q7 q8; go_simp <;> (try with_reducible rfl))
            try simp only [Act.put, List.setIfInBounds_toArray, List.set_cons_zero, List.set_cons_succ]
            refine wpAnyH_take (i := 8) (oi := ?mx8o) (v := ?mx8v) ?mx8h (by kernel_rfl) (by kernel_rfl) (by kernel_rfl) ?mx8q ?mx8y hHeld ?mx8r
            case mx8h => (simp only [List.getElem?_toArray, List.getElem?_cons_succ, List.getElem?_cons_zero]; rfl)
            case mx8q => exact fun _ _ _ h => h
            case mx8y => (refine Or.inl ⟨by first | kernel_rfl | rfl, ?_⟩; intro w hSw; (try dsimp only at hSw); obtain ⟨q0, q1, q2, q3, q4, q5, q6, q7, q8⟩ := hSw; dsimp only at q0 q1 q2 q3 q4 q5 q6 q7 q8; go_simp <;> (try with_reducible rfl))
            try simp only [Act.put, List.setIfInBounds_toArray, List.set_cons_zero, List.set_cons_succ]
            refine wpAnyH_take (i := 9) (oi := ?mx9o) (v := ?mx9v) ?mx9h (by kernel_rfl) (by kernel_rfl) (by kernel_rfl) ?mx9q ?mx9y hHeld ?mx9r
            case mx9h => (simp only [List.getElem?_toArray, List.getElem?_cons_succ, List.getElem?_cons_zero]; rfl)
            case mx9q => exact fun _ _ _ h => h
            case mx9y => (refine Or.inl ⟨by first | kernel_rfl | rfl, ?_⟩; intro w hSw; (try dsimp only at hSw); obtain ⟨q0, q1, q2, q3, q4, q5, q6, q7, q8⟩ := hSw; dsimp only at q0 q1 q2 q3 q4 q5 q6 q7 q8; go_simp <;> (try with_reducible rfl))
            try simp only [Act.put, List.setIfInBounds_toArray, List.set_cons_zero, List.set_cons_succ]
            refine wpAnyH_take (i := 10) (oi := ?mx10o) (v := ?mx10v) ?mx10h (by kernel_rfl) (by kernel_rfl) (by kernel_rfl) ?mx10q ?mx10y hHeld ?mx10r
            case mx10h => (simp only [List.getElem?_toArray, List.getElem?_cons_succ, List.getElem?_cons_zero]; rfl)
            case mx10q => exact fun _ _ _ h => h
            case mx10y => (refine Or.inl ⟨by first | kernel_rfl | rfl, ?_⟩; intro w hSw; (try dsimp only at hSw); obtain ⟨q0, q1, q2, q3, q4, q5, q6, q7, q8⟩ := hSw; dsimp only at q0 q1 q2 q3 q4 q5 q6 q7 q8; go_simp <;> (try with_reducible rfl))
            try simp only [Act.put, List.setIfInBounds_toArray, List.set_cons_zero, List.set_cons_succ]
            refine wpAnyH_ready (rs := [4]) (by kernel_rfl) (by simp) ?_
            refine (AllReadyH.cons rfl (fun K hK => ?_) AllReadyH.nil)
            go_simp
            skip
            refine hK.out _ _ (hHeld) (fun hHeld => ?_)
            clear hK K
            try simp only [Act.put, List.setIfInBounds_toArray, List.set_cons_zero, List.set_cons_succ]
            refine wpAnyH_ready (rs := [11]) (by kernel_rfl) (by simp) ?_
            refine (AllReadyH.cons rfl (fun K hK => ?_) AllReadyH.nil)
            go_simp
            (go_at_call 46; (with_reducible refine (HWT.out _ _ (Ns.later HM6.out.kn (Below.refl _ _).drew)).mono ?_); rintro e w7 ⟨v7, rfl, hn7, hb7, hf7⟩; (obtain ⟨a7, c7, rfl⟩ := hn7.slice); (have hM7 := HM6.out.later (bel_next (Below.refl _ _).drew hb7)); (have HM7 := Lib.hid hM7); (have HN7 := Lib.hid hn7); (have HF7 := Lib.hid hf7); (have HBX7 := Lib.hid ((HBX6.out.later (Below.refl _ _).drew).later hb7)); (have hc17 := hM7.c1); (have hf17 : w7.frozen? ⟨b, 1, none⟩ = false := Joins.unfrozen_of_block hM7.obj _); (clear hM7 hn7 hb7 hf7))
            refine hK.out _ _ (HBX7.out) (fun hHeld => ?_)
            clear hK K
            try simp only [Act.put, List.setIfInBounds_toArray, List.set_cons_zero, List.set_cons_succ]
            refine wpAnyH_take (i := 12) (oi := ?mx11o) (v := ?mx11v) ?mx11h (by kernel_rfl) (by kernel_rfl) (by kernel_rfl) ?mx11q ?mx11y hHeld ?mx11r
            case mx11h => (simp only [List.getElem?_toArray, List.getElem?_cons_succ, List.getElem?_cons_zero]; rfl)
            case mx11q => exact fun _ _ _ h => h
            case mx11y => (refine Or.inl ⟨by first | kernel_rfl | rfl, ?_⟩; intro w hSw; (try dsimp only at hSw); obtain ⟨q0, q1, q2, q3, q4, q5, q6, q7, q8⟩ := hSw; dsimp only at q0 q1 q2 q3 q4 q5 q6 q7 q8; go_simp <;> (try with_reducible rfl))
            try simp only [Act.put, List.setIfInBounds_toArray, List.set_cons_zero, List.set_cons_succ]
            refine wpAnyH_take (i := 13) (oi := ?mx12o) (v := ?mx12v) ?mx12h (by kernel_rfl) (by kernel_rfl) (by kernel_rfl) ?mx12q ?mx12y hHeld ?mx12r
            case mx12h => (simp only [List.getElem?_toArray, List.getElem?_cons_succ, List.getElem?_cons_zero]; rfl)
            case mx12q => exact fun _ _ _ h => h
            case mx12y => (refine Or.inl ⟨by first | kernel_rfl | rfl, ?_⟩; intro w hSw; (try dsimp only at hSw); obtain ⟨q0, q1, q2, q3, q4, q5, q6, q7, q8⟩ := hSw; dsimp only at q0 q1 q2 q3 q4 q5 q6 q7 q8; go_simp <;> (try with_reducible rfl))
            try simp only [Act.put, List.setIfInBounds_toArray, List.set_cons_zero, List.set_cons_succ]
            refine wpAnyH_ready (rs := [14]) (by kernel_rfl) (by simp) ?_
            refine (AllReadyH.cons rfl (fun K hK => ?_) AllReadyH.nil)
            go_simp
            skip
            refine hK.out _ _ (R9.other HBX7.out (World.heap_setCell_off _ b 1 _ w.heap.size (by have h8 := HLT.out; omega))) (fun hHeld => ?_)
            clear hK K
            try simp only [Act.put]
            refine wpAnyH_done (by kernel_rfl) ?_ _
            have hM8 := HM7.out.set1 (.slice a7 (withL S.know zst zq).length c7) HN7.out (fun q hq => ⟨by have h8 := (HF7.out q hq).1; have h9 := HM6.out.fr.size; simp only [World.size_drew] at h8; omega, (HF7.out q hq).2, fun e => by have h8 := (HF7.out q hq).1; have h9 := (HM6.out.vb q e).2.1; simp only [World.size_drew] at h8; omega⟩)
            have HM8 := Lib.hid hM8
            have hb8 := R9.other HBX7.out (World.heap_setCell_off w7 b 1 (.slice a7 (withL S.know zst zq).length c7) w.heap.size (by have h8 := HLT.out; omega))
            obtain ⟨w8, hw8⟩ : ∃ x, w7.setCell ⟨b, 1, none⟩ (.slice a7 (withL S.know zst zq).length c7) = x := ⟨_, rfl⟩
            rw [hw8] at HM8 hb8 hM8 ⊢
            have HBX8 := Lib.hid hb8
            clear hb8
            have k3 := hM8.c3
            have f3 : w8.frozen? ⟨b, 3, none⟩ = false := Joins.unfrozen_of_block hM8.obj _
            clear hM8 hw8 hc17 hf17
            go_wp2_with fail
            refine wp_region_held_drew (S := (fun X : World => R9 X w.heap.size 0 ⟨⟨zk, zss, zt, zv, ztier, ⟨zc, zst, zq⟩, zd⟩, za, zcc⟩)) (by kernel_rfl) (R9.later HBX8.out (Below.refl _ _).drew) (fun hHeld => ?_)
            refine wpAnyH_take (i := 0) (oi := ?nx1o) (v := ?nx1v) ?nx1h (by kernel_rfl) (by kernel_rfl) (by kernel_rfl) ?nx1q ?nx1y hHeld ?nx1r
            case nx1h => (simp only [List.getElem?_toArray, List.getElem?_cons_zero]; rfl)
            case nx1q => exact fun _ _ _ h => h
            case nx1y => (refine Or.inl ⟨by first | kernel_rfl | rfl, ?_⟩; intro w hSw; (try dsimp only at hSw); obtain ⟨q0, q1, q2, q3, q4, q5, q6, q7, q8⟩ := hSw; dsimp only at q0 q1 q2 q3 q4 q5 q6 q7 q8; go_simp <;> (try with_reducible rfl))
            try simp only [Act.put, List.setIfInBounds_toArray, List.set_cons_zero, List.set_cons_succ]
            refine wpAnyH_take (i := 1) (oi := ?nx2o) (v := ?nx2v) ?nx2h (by kernel_rfl) (by kernel_rfl) (by kernel_rfl) ?nx2q ?nx2y hHeld ?nx2r
            case nx2h => (simp only [List.getElem?_toArray, List.getElem?_cons_succ, List.getElem?_cons_zero]; rfl)
            case nx2q => exact fun _ _ _ h => h
            case nx2y => (refine Or.inl ⟨by first | kernel_rfl | rfl, ?_⟩; intro w hSw; (try dsimp only at hSw); obtain ⟨q0, q1, q2, q3, q4, q5, q6, q7, q8⟩ := hSw; dsimp only at q0 q1 q2 q3 q4 q5 q6 q7 q8; go_simp <;> (try with_reducible rfl))
            try simp only [Act.put, List.setIfInBounds_toArray, List.set_cons_zero, List.set_cons_succ]
            refine wpAnyH_take (i := 2) (oi := ?nx3o) (v := ?nx3v) ?nx3h (by kernel_rfl) (by kernel_rfl) (by kernel_rfl) ?nx3q ?nx3y hHeld ?nx3r
            case nx3h => (simp only [List.getElem?_toArray, List.getElem?_cons_succ, List.getElem?_cons_zero]; rfl)
            case nx3q => exact fun _ _ _ h => h
            case nx3y => (refine Or.inl ⟨by first | kernel_rfl | rfl, ?_⟩; intro w hSw; (try dsimp only at hSw); obtain ⟨q0, q1, q2, q3, q4, q5, q6, q7, q8⟩ := hSw; dsimp only at q0 q1 q2 q3 q4 q5 q6 q7 q8; go_simp <;> (try with_reducible rfl))
            try simp only [Act.put, List.setIfInBounds_toArray, List.set_cons_zero, List.set_cons_succ]
            refine wpAnyH_take (i := 3) (oi := ?nx4o) (v := ?nx4v) ?nx4h (by kernel_rfl) (by kernel_rfl) (by kernel_rfl) ?nx4q ?nx4y hHeld ?nx4r
            case nx4h => (simp only [List.getElem?_toArray, List.getElem?_cons_succ, List.getElem?_cons_zero]; rfl)
            case nx4q => exact fun _ _ _ h => h
            case nx4y => (refine Or.inl ⟨by first | kernel_rfl | rfl, ?_⟩; intro w hSw; (try dsimp only at hSw); obtain ⟨q0, q1, q2, q3, q4, q5, q6, q7, q8⟩ := hSw; dsimp only at q0 q1 q2 q3 q4 q5 q6 q7 q8; go_simp <;> (try with_reducible rfl))
            try simp only [Act.put, List.setIfInBounds_toArray, List.set_cons_zero, List.set_cons_succ]
            refine wpAnyH_take (i := 5) (oi := ?nx5o) (v := ?nx5v) ?nx5h (by kernel_rfl) (by kernel_rfl) (by kernel_rfl) ?nx5q ?nx5y hHeld ?nx5r
            case nx5h => (simp only [List.getElem?_toArray, List.getElem?_cons_succ, List.getElem?_cons_zero]; rfl)
            case nx5q => exact fun _ _ _ h => h
            case nx5y => (refine Or.inl ⟨by first | kernel_rfl | rfl, ?_⟩; intro w hSw; (try dsimp only at hSw); obtain ⟨q0, q1, q2, q3, q4, q5, q6, q7, q8⟩ := hSw; dsimp only at q0 q1 q2 q3 q4 q5 q6 q7 q8; go_simp <;> (try with_reducible rfl))
            try simp only [Act.put, List.setIfInBounds_toArray, List.set_cons_zero, List.set_cons_succ]
            refine wpAnyH_take (i := 6) (oi := ?nx6o) (v := ?nx6v) ?nx6h (by kernel_rfl) (by kernel_rfl) (by kernel_rfl) ?nx6q ?nx6y hHeld ?nx6r
            case nx6h => (simp only [List.getElem?_toArray, List.getElem?_cons_succ, List.getElem?_cons_zero]; rfl)
            case nx6q => exact fun _ _ _ h => h
            case nx6y => (refine Or.inl ⟨by first | kernel_rfl | rfl, ?_⟩; intro w hSw; (try dsimp only at hSw); obtain ⟨q0, q1, q2, q3, q4, q5, q6, q7, q8⟩ := hSw; dsimp only at q0 q1 q2 q3 q4 q5 q6 q7 q8; go_simp <;> (try with_reducible rfl))
            try simp only [Act.put, List.setIfInBounds_toArray, List.set_cons_zero, List.set_cons_succ]
            refine wpAnyH_take (i := 7) (oi := ?nx7o) (v := ?nx7v) ?nx7h (by kernel_rfl) (by kernel_rfl) (by kernel_rfl) ?nx7q ?nx7y hHeld ?nx7r
            case nx7h => (simp only [List.getElem?_toArray, List.getElem?_cons_succ, List.getElem?_cons_zero]; rfl)
            case nx7q => exact fun _ _ _ h => h
            case nx7y => (refine Or.inl ⟨by first | kernel_rfl | rfl, ?_⟩; intro w hSw; (try dsimp only at hSw); obtain ⟨q0, q1, q2, q3, q4, q5, q6, q7, q8⟩ := hSw; dsimp only at q0 q1 q2 q3 q4 q5 q6 q7 q8; go_simp <;> (try with_reducible rfl))
            try simp only [Act.put, List.setIfInBounds_toArray, List.set_cons_zero, List.set_cons_succ]
            refine wpAnyH_ready (rs := [4]) (by kernel_rfl) (by simp) ?_
            refine (AllReadyH.cons rfl (fun K hK => ?_) AllReadyH.nil)
            go_simp
            skip
            refine hK.out _ _ (hHeld) (fun hHeld => ?_)
            clear hK K
            try simp only [Act.put, List.setIfInBounds_toArray, List.set_cons_zero, List.set_cons_succ]
            refine wpAnyH_take (i := 8) (oi := ?nx8o) (v := ?nx8v) ?nx8h (by kernel_rfl) (by kernel_rfl) (by kernel_rfl) ?nx8q ?nx8y hHeld ?nx8r
            case nx8h => (simp only [List.getElem?_toArray, List.getElem?_cons_succ, List.getElem?_cons_zero]; rfl)
            case nx8q => exact fun _ _ _ h => h
            case nx8y => (refine Or.inl ⟨by first | kernel_rfl | rfl, ?_⟩; intro w hSw; (try dsimp only at hSw); obtain ⟨q0, q1, q2, q3, q4, q5, q6, q7, q8⟩ := hSw; dsimp only at q0 q1 q2 q3 q4 q5 q6 q7 q8; go_simp <;> (try with_reducible rfl))
            try simp only [Act.put, List.setIfInBounds_toArray, List.set_cons_zero, List.set_cons_succ]
            refine wpAnyH_take (i := 9) (oi := ?nx9o) (v := ?nx9v) ?nx9h (by kernel_rfl) (by kernel_rfl) (by kernel_rfl) ?nx9q ?nx9y hHeld ?nx9r
            case nx9h => (simp only [List.getElem?_toArray, List.getElem?_cons_succ, List.getElem?_cons_zero]; rfl)
            case nx9q => exact fun _ _ _ h => h
            case nx9y => (refine Or.inl ⟨by first | kernel_rfl | rfl, ?_⟩; intro w hSw; (try dsimp only at hSw); obtain ⟨q0, q1, q2, q3, q4, q5, q6, q7, q8⟩ := hSw; dsimp only at q0 q1 q2 q3 q4 q5 q6 q7 q8; go_simp <;> (try with_reducible rfl))
            try simp only [Act.put, List.setIfInBounds_toArray, List.set_cons_zero, List.set_cons_succ]
            refine wpAnyH_take (i := 10) (oi := ?nx10o) (v := ?nx10v) ?nx10h (by kernel_rfl) (by kernel_rfl) (by kernel_rfl) ?nx10q ?nx10y hHeld ?nx10r
            case nx10h => (simp only [List.getElem?_toArray, List.getElem?_cons_succ, List.getElem?_cons_zero]; rfl)
            case nx10q => exact fun _ _ _ h => h
            case nx10y => (refine Or.inl ⟨by first | kernel_rfl | rfl, ?_⟩; intro w hSw; (try dsimp only at hSw); obtain ⟨q0, q1, q2, q3, q4, q5, q6, q7, q8⟩ := hSw; dsimp only at q0 q1 q2 q3 q4 q5 q6 q7 q8; go_simp <;> (try with_reducible rfl))
            try simp only [Act.put, List.setIfInBounds_toArray, List.set_cons_zero, List.set_cons_succ]
            refine wpAnyH_ready (rs := [11]) (by kernel_rfl) (by simp) ?_
            refine (AllReadyH.cons rfl (fun K hK => ?_) AllReadyH.nil)
            go_simp
            skip
            refine hK.out _ _ (R9.other hHeld (World.heap_setCell_off _ b 3 _ w.heap.size (by have h8 := HLT.out; omega))) (fun hHeld => ?_)
            clear hK K
            try simp only [Act.put]
            refine wpAnyH_done (by kernel_rfl) ?_ _
            go_wp2
            go_ret
            refine ⟨by rw [HE.out]; rfl, ?_⟩
            rw [addS_yes HE.out]
            have hfin := HM8.out.done (by have h8 := HREST.out.1; rw [HNL.out] at h8; exact h8) HREST.out.2 HE.out rfl
            exact ⟨hfin.1.later (Below.refl _ _).drew, FrF.next hfin.2 (FrF.of (Below.refl _ _).drew) (fun _ _ e => e)⟩
          ·
            go_simp
            (go_at_call 42; (with_reducible refine (HKO.out _ (Ns.later (Ns.later HN.out HBX.out) (Below.refl _ _).drew)).mono ?_); rintro e w3 ⟨a2, c2', rfl, hn3, hb3, hf3⟩; (have hbw : Below w.heap.size w w3 := bel_next HB2.out.drew hb3); (have hO3 := HO.out.later hbw); (have hal3 := (Below.refl w3.heap.size w3).alloc (Nat.le_refl _) (box9 ⟨⟨zk, zss, zt, zv, ztier, ⟨zc, zst, zq⟩, zd⟩, a2, c2'⟩)); (obtain ⟨a5, c5, w5, hrun, hrow, hgr, hnew⟩ := ORow.app (w := w3.alloc (box9 ⟨⟨zk, zss, zt, zv, ztier, ⟨zc, zst, zq⟩, zd⟩, a2, c2'⟩)) (B := B) (r := n) (N := w3.heap.size) (zs := zs) (v := .slice a0 n c0) (y := ⟨⟨zk, zss, zt, zv, ztier, ⟨zc, zst, zq⟩, zd⟩, a2, c2'⟩) 37 HNL.out (by have h7 := hO3.row.later hal3; rw [HNL.out] at h7; exact h7) (R9.new _ _) (by omega) (by have h8 := hO3.lo; have h9 := hO3.lt; have h10 := hal3.size; omega)); (have hO0 := HO.out); (rw [HNL.out] at hO0); (have hD := AdM.made hO0 (Below.trans hbw (hal3.mono hbw.size)) hrow hgr hnew (Ns.later hn3 hal3) (fun q hq => ⟨by have h8 := (hf3 q hq).1; have h9 := HB2.out.size; simp only [World.size_drew] at h8; omega, Nat.lt_of_lt_of_le (hf3 q hq).2 hal3.size⟩)); (have HD := Lib.hid hD); (have hob5 := hD.obj); (have hc25 : w5.cell? ⟨b, 2, none⟩ = some (.slice a0 n c0) := by rw [Joins.cell_of_block hob5]; rfl); (have hf25 : w5.frozen? ⟨b, 2, none⟩ = false := Joins.unfrozen_of_block hob5 _); (have hbx5 := (R9.later (R9.later (HBOX.out.later HBX.out) ((Below.refl _ _).drew)) hb3).later hal3); (have HBX3 := Lib.hid (R9.later (R9.later (HBOX.out.later HBX.out) ((Below.refl _ _).drew)) hb3)); (have HBX4 := Lib.hid hbx5); (have c23 := (HO.out.later hbw).c2); (rw [HNL.out] at c23); (have c24 : (w3.alloc (.cells #[.int .i64 zk, .string zss, .int .i64 zt, .int .i64 zv, .int .i64 ztier, .int .i64 zc, .int .i64 zst, .int .i64 zq, .slice a2 zd.length c2'] 33)).cell? ⟨b, 2, none⟩ = some (.slice a0 n c0) := by (have h8 := (HO.out.later (Below.trans hbw (hal3.mono hbw.size))).c2; rw [HNL.out] at h8; exact h8)); (have HBX5 := Lib.hid (R9.other hbx5 (hgr.block _ hbx5.room (fun e => by have h8 := (hO0.row.lt (k := w.heap.size) e.symm).2; omega)))); (clear hbw hO3 hO0 hal3 hrow hgr hnew hn3 hb3 hf3 hD hob5 hbx5))
            refine hK.out _ _ (HBX3.out) (fun hHeld => ?_)
            clear hK K
            try simp only [Act.put, List.setIfInBounds_toArray, List.set_cons_zero, List.set_cons_succ]
            refine wpAnyH_ready (rs := [4, 7]) (by kernel_rfl) (by simp) ?_
            refine (AllReadyH.cons rfl (fun K hK => ?_) (AllReadyH.cons rfl (fun K hK => ?_) AllReadyH.nil))
            ·
              go_simp
              skip
              refine hK.out _ _ (hHeld) (fun hHeld => ?_)
              clear hK K
              try simp only [Act.put, List.setIfInBounds_toArray, List.set_cons_zero, List.set_cons_succ]
              refine wpAnyH_ready (rs := [7]) (by kernel_rfl) (by simp) ?_
              refine (AllReadyH.cons rfl (fun K hK => ?_) AllReadyH.nil)
              go_simp
              skip
              refine hK.out _ _ (HBX4.out) (fun hHeld => ?_)
              clear hK K
              try simp only [Act.put, List.setIfInBounds_toArray, List.set_cons_zero, List.set_cons_succ]
              refine wpAnyH_ready (rs := [8]) (by kernel_rfl) (by simp) ?_
              refine (AllReadyH.cons rfl (fun K hK => ?_) AllReadyH.nil)
              refine (if_pos (by kernel_rfl)).mpr ?_
              refine Lib.wp_append_run _ _ _ _ _ rfl _ _ rfl rfl _ _ hrun ?_
              refine hK.out _ _ (HBX5.out) (fun hHeld => ?_)
              clear hK K
              try simp only [Act.put, List.setIfInBounds_toArray, List.set_cons_zero, List.set_cons_succ]
              refine wpAnyH_take (i := 9) (oi := ?o8o) (v := ?o8v) ?o8h (by kernel_rfl) (by kernel_rfl) (by kernel_rfl) ?o8q ?o8y hHeld ?o8r
              case o8h => (simp only [List.getElem?_toArray, List.getElem?_cons_succ, List.getElem?_cons_zero]; rfl)
              case o8q => exact fun _ _ _ h => h
              case o8y => (refine Or.inl ⟨by first | kernel_rfl | rfl, ?_⟩; intro w hSw; (try dsimp only at hSw); obtain ⟨q0, q1, q2, q3, q4, q5, q6, q7, q8⟩ := hSw; dsimp only at q0 q1 q2 q3 q4 q5 q6 q7 q8; go_simp <;> (try with_reducible rfl))
              try simp only [Act.put, List.setIfInBounds_toArray, List.set_cons_zero, List.set_cons_succ]
              refine wpAnyH_take (i := 10) (oi := ?o9o) (v := ?o9v) ?o9h (by kernel_rfl) (by kernel_rfl) (by kernel_rfl) ?o9q ?o9y hHeld ?o9r
              case o9h => (simp only [List.getElem?_toArray, List.getElem?_cons_succ, List.getElem?_cons_zero]; rfl)
              case o9q => exact fun _ _ _ h => h
              case o9y => (refine Or.inl ⟨by first | kernel_rfl | rfl, ?_⟩; intro w hSw; (try dsimp only at hSw); obtain ⟨q0, q1, q2, q3, q4, q5, q6, q7, q8⟩ := hSw; dsimp only at q0 q1 q2 q3 q4 q5 q6 q7 q8; go_simp <;> (try with_reducible rfl))
              try simp only [Act.put, List.setIfInBounds_toArray, List.set_cons_zero, List.set_cons_succ]
              refine wpAnyH_ready (rs := [11]) (by kernel_rfl) (by simp) ?_
              refine (AllReadyH.cons rfl (fun K hK => ?_) AllReadyH.nil)
              go_simp
              skip
              refine hK.out _ _ (R9.other HBX5.out (World.heap_setCell_off w5 b 2 (.slice a5 (n + 1) c5) w.heap.size (by have h8 := HLT.out; omega))) (fun hHeld => ?_)
              clear hK K
              try simp only [Act.put]
              refine wpAnyH_done (by kernel_rfl) ?_ _
              have hM6 := HD.out.set2
              have HM6 := Lib.hid hM6
              have hb6 := R9.other HBX5.out (World.heap_setCell_off w5 b 2 (.slice a5 (n + 1) c5) w.heap.size (by have h8 := HLT.out; omega))
              obtain ⟨w6, hw6⟩ : ∃ x, w5.setCell ⟨b, 2, none⟩ (.slice a5 (n + 1) c5) = x := ⟨_, rfl⟩
              rw [hw6] at HM6 hb6 hM6 ⊢
              have HBX6 := Lib.hid hb6
              clear hb6
              have k1 := hM6.c1
              clear hM6 hw6 hrun hc25 hf25
              go_wp2_with fail
              refine wp_region_held_drew (S := (fun X : World => R9 X w.heap.size 0 ⟨⟨zk, zss, zt, zv, ztier, ⟨zc, zst, zq⟩, zd⟩, za, zcc⟩)) (by kernel_rfl) (R9.later HBX6.out (Below.refl _ _).drew) (fun hHeld => ?_)
              refine wpAnyH_take (i := 0) (oi := ?my1o) (v := ?my1v) ?my1h (by kernel_rfl) (by kernel_rfl) (by kernel_rfl) ?my1q ?my1y hHeld ?my1r
              case my1h => (simp only [List.getElem?_toArray, List.getElem?_cons_zero]; rfl)
              case my1q => exact fun _ _ _ h => h
              case my1y => (refine Or.inl ⟨by first | kernel_rfl | rfl, ?_⟩; intro w hSw; (try dsimp only at hSw); obtain ⟨q0, q1, q2, q3, q4, q5, q6, q7, q8⟩ := hSw; dsimp only at q0 q1 q2 q3 q4 q5 q6 q7 q8; go_simp <;> (try with_reducible rfl))
              try simp only [Act.put, List.setIfInBounds_toArray, List.set_cons_zero, List.set_cons_succ]
              refine wpAnyH_take (i := 1) (oi := ?my2o) (v := ?my2v) ?my2h (by kernel_rfl) (by kernel_rfl) (by kernel_rfl) ?my2q ?my2y hHeld ?my2r
              case my2h => (simp only [List.getElem?_toArray, List.getElem?_cons_succ, List.getElem?_cons_zero]; rfl)
              case my2q => exact fun _ _ _ h => h
              case my2y => (refine Or.inl ⟨by first | kernel_rfl | rfl, ?_⟩; intro w hSw; (try dsimp only at hSw); obtain ⟨q0, q1, q2, q3, q4, q5, q6, q7, q8⟩ := hSw; dsimp only at q0 q1 q2 q3 q4 q5 q6 q7 q8; go_simp <;> (try with_reducible rfl))
              try simp only [Act.put, List.setIfInBounds_toArray, List.set_cons_zero, List.set_cons_succ]
              refine wpAnyH_take (i := 2) (oi := ?my3o) (v := ?my3v) ?my3h (by kernel_rfl) (by kernel_rfl) (by kernel_rfl) ?my3q ?my3y hHeld ?my3r
              case my3h => (simp only [List.getElem?_toArray, List.getElem?_cons_succ, List.getElem?_cons_zero]; rfl)
              case my3q => exact fun _ _ _ h => h
              case my3y => (refine Or.inl ⟨by first | kernel_rfl | rfl, ?_⟩; intro w hSw; (try dsimp only at hSw); obtain ⟨q0, q1, q2, q3, q4, q5, q6, q7, q8⟩ := hSw; dsimp only at q0 q1 q2 q3 q4 q5 q6 q7 q8; go_simp <;> (try with_reducible rfl))
              try simp only [Act.put, List.setIfInBounds_toArray, List.set_cons_zero, List.set_cons_succ]
              refine wpAnyH_take (i := 3) (oi := ?my4o) (v := ?my4v) ?my4h (by kernel_rfl) (by kernel_rfl) (by kernel_rfl) ?my4q ?my4y hHeld ?my4r
              case my4h => (simp only [List.getElem?_toArray, List.getElem?_cons_succ, List.getElem?_cons_zero]; rfl)
              case my4q => exact fun _ _ _ h => h
              case my4y => (refine Or.inl ⟨by first | kernel_rfl | rfl, ?_⟩; intro w hSw; (try dsimp only at hSw); obtain ⟨q0, q1, q2, q3, q4, q5, q6, q7, q8⟩ := hSw; dsimp only at q0 q1 q2 q3 q4 q5 q6 q7 q8; go_simp <;> (try with_reducible rfl))
              try simp only [Act.put, List.setIfInBounds_toArray, List.set_cons_zero, List.set_cons_succ]
              refine wpAnyH_take (i := 5) (oi := ?my5o) (v := ?my5v) ?my5h (by kernel_rfl) (by kernel_rfl) (by kernel_rfl) ?my5q ?my5y hHeld ?my5r
              case my5h => (simp only [List.getElem?_toArray, List.getElem?_cons_succ, List.getElem?_cons_zero]; rfl)
              case my5q => exact fun _ _ _ h => h
              case my5y => (refine Or.inl ⟨by first | kernel_rfl | rfl, ?_⟩; intro w hSw; (try dsimp only at hSw); obtain ⟨q0, q1, q2, q3, q4, q5, q6, q7, q8⟩ := hSw; dsimp only at q0 q1 q2 q3 q4 q5 q6 q7 q8; go_simp <;> (try with_reducible rfl))
              try simp only [Act.put, List.setIfInBounds_toArray, List.set_cons_zero, List.set_cons_succ]
              refine wpAnyH_take (i := 6) (oi := ?my6o) (v := ?my6v) ?my6h (by kernel_rfl) (by kernel_rfl) (by kernel_rfl) ?my6q ?my6y hHeld ?my6r
              case my6h => (simp only [List.getElem?_toArray, List.getElem?_cons_succ, List.getElem?_cons_zero]; rfl)
              case my6q => exact fun _ _ _ h => h
              case my6y => (refine Or.inl ⟨by first | kernel_rfl | rfl, ?_⟩; intro w hSw; (try dsimp only at hSw); obtain ⟨q0, q1, q2, q3, q4, q5, q6, q7, q8⟩ := hSw; dsimp only at q0 q1 q2 q3 q4 q5 q6 q7 q8; go_simp <;> (try with_reducible rfl))
              try simp only [Act.put, List.setIfInBounds_toArray, List.set_cons_zero, List.set_cons_succ]
              refine wpAnyH_take (i := 7) (oi := ?my7o) (v := ?my7v) ?my7h (by kernel_rfl) (by kernel_rfl) (by kernel_rfl) ?my7q ?my7y hHeld ?my7r
              case my7h => (simp only [List.getElem?_toArray, List.getElem?_cons_succ, List.getElem?_cons_zero]; rfl)
              case my7q => exact fun _ _ _ h => h
              case my7y => (refine Or.inl ⟨by first | kernel_rfl | rfl, ?_⟩; intro w hSw; (try dsimp only at hSw); obtain ⟨q0, q1, q2, q3, q4, q5, q6, q7, q8⟩ := hSw; dsimp only at q0 q1 q2 q3 q4 q5 q6 q7 q8; go_simp <;> (try with_reducible rfl))
              try simp only [Act.put, List.setIfInBounds_toArray, List.set_cons_zero, List.set_cons_succ]
              refine wpAnyH_take (i := 8) (oi := ?my8o) (v := ?my8v) ?my8h (by kernel_rfl) (by kernel_rfl) (by kernel_rfl) ?my8q ?my8y hHeld ?my8r
              case my8h => (simp only [List.getElem?_toArray, List.getElem?_cons_succ, List.getElem?_cons_zero]; rfl)
              case my8q => exact fun _ _ _ h => h
              case my8y => (refine Or.inl ⟨by first | kernel_rfl | rfl, ?_⟩; intro w hSw; (try dsimp only at hSw); obtain ⟨q0, q1, q2, q3, q4, q5, q6, q7, q8⟩ := hSw; dsimp only at q0 q1 q2 q3 q4 q5 q6 q7 q8; go_simp <;> (try with_reducible rfl))
              try simp only [Act.put, List.setIfInBounds_toArray, List.set_cons_zero, List.set_cons_succ]
              refine wpAnyH_take (i := 9) (oi := ?my9o) (v := ?my9v) ?my9h (by kernel_rfl) (by kernel_rfl) (by kernel_rfl) ?my9q ?my9y hHeld ?my9r
              case my9h => (simp only [List.getElem?_toArray, List.getElem?_cons_succ, List.getElem?_cons_zero]; rfl)
              case my9q => exact fun _ _ _ h => h
              case my9y => (refine Or.inl ⟨by first | kernel_rfl | rfl, ?_⟩; intro w hSw; (try dsimp only at hSw); obtain ⟨q0, q1, q2, q3, q4, q5, q6, q7, q8⟩ := hSw; dsimp only at q0 q1 q2 q3 q4 q5 q6 q7 q8; go_simp <;> (try with_reducible rfl))
              try simp only [Act.put, List.setIfInBounds_toArray, List.set_cons_zero, List.set_cons_succ]
              refine wpAnyH_take (i := 10) (oi := ?my10o) (v := ?my10v) ?my10h (by kernel_rfl) (by kernel_rfl) (by kernel_rfl) ?my10q ?my10y hHeld ?my10r
              case my10h => (simp only [List.getElem?_toArray, List.getElem?_cons_succ, List.getElem?_cons_zero]; rfl)
              case my10q => exact fun _ _ _ h => h
              case my10y => (refine Or.inl ⟨by first | kernel_rfl | rfl, ?_⟩; intro w hSw; (try dsimp only at hSw); obtain ⟨q0, q1, q2, q3, q4, q5, q6, q7, q8⟩ := hSw; dsimp only at q0 q1 q2 q3 q4 q5 q6 q7 q8; go_simp <;> (try with_reducible rfl))
              try simp only [Act.put, List.setIfInBounds_toArray, List.set_cons_zero, List.set_cons_succ]
              refine wpAnyH_ready (rs := [4]) (by kernel_rfl) (by simp) ?_
              refine (AllReadyH.cons rfl (fun K hK => ?_) AllReadyH.nil)
              go_simp
              skip
              refine hK.out _ _ (hHeld) (fun hHeld => ?_)
              clear hK K
              try simp only [Act.put, List.setIfInBounds_toArray, List.set_cons_zero, List.set_cons_succ]
              refine wpAnyH_ready (rs := [11]) (by kernel_rfl) (by simp) ?_
              refine (AllReadyH.cons rfl (fun K hK => ?_) AllReadyH.nil)
              go_simp
              (go_at_call 46; (with_reducible refine (HWT.out _ _ (Ns.later HM6.out.kn (Below.refl _ _).drew)).mono ?_); rintro e w7 ⟨v7, rfl, hn7, hb7, hf7⟩; (obtain ⟨a7, c7, rfl⟩ := hn7.slice); (have hM7 := HM6.out.later (bel_next (Below.refl _ _).drew hb7)); (have HM7 := Lib.hid hM7); (have HN7 := Lib.hid hn7); (have HF7 := Lib.hid hf7); (have HBX7 := Lib.hid ((HBX6.out.later (Below.refl _ _).drew).later hb7)); (have hc17 := hM7.c1); (have hf17 : w7.frozen? ⟨b, 1, none⟩ = false := Joins.unfrozen_of_block hM7.obj _); (clear hM7 hn7 hb7 hf7))
              refine hK.out _ _ (HBX7.out) (fun hHeld => ?_)
              clear hK K
              try simp only [Act.put, List.setIfInBounds_toArray, List.set_cons_zero, List.set_cons_succ]
              refine wpAnyH_take (i := 12) (oi := ?my11o) (v := ?my11v) ?my11h (by kernel_rfl) (by kernel_rfl) (by kernel_rfl) ?my11q ?my11y hHeld ?my11r
              case my11h => (simp only [List.getElem?_toArray, List.getElem?_cons_succ, List.getElem?_cons_zero]; rfl)
              case my11q => exact fun _ _ _ h => h
              case my11y => (refine Or.inl ⟨by first | kernel_rfl | rfl, ?_⟩; intro w hSw; (try dsimp only at hSw); obtain ⟨q0, q1, q2, q3, q4, q5, q6, q7, q8⟩ := hSw; dsimp only at q0 q1 q2 q3 q4 q5 q6 q7 q8; go_simp <;> (try with_reducible rfl))
              try simp only [Act.put, List.setIfInBounds_toArray, List.set_cons_zero, List.set_cons_succ]
              refine wpAnyH_take (i := 13) (oi := ?my12o) (v := ?my12v) ?my12h (by kernel_rfl) (by kernel_rfl) (by kernel_rfl) ?my12q ?my12y hHeld ?my12r
              case my12h => (simp only [List.getElem?_toArray, List.getElem?_cons_succ, List.getElem?_cons_zero]; rfl)
              case my12q => exact fun _ _ _ h => h
              case my12y => (refine Or.inl ⟨by first | kernel_rfl | rfl, ?_⟩; intro w hSw; (try dsimp only at hSw); obtain ⟨q0, q1, q2, q3, q4, q5, q6, q7, q8⟩ := hSw; dsimp only at q0 q1 q2 q3 q4 q5 q6 q7 q8; go_simp <;> (try with_reducible rfl))
              try simp only [Act.put, List.setIfInBounds_toArray, List.set_cons_zero, List.set_cons_succ]
              refine wpAnyH_ready (rs := [14]) (by kernel_rfl) (by simp) ?_
              refine (AllReadyH.cons rfl (fun K hK => ?_) AllReadyH.nil)
              go_simp
              skip
              refine hK.out _ _ (R9.other HBX7.out (World.heap_setCell_off _ b 1 _ w.heap.size (by have h8 := HLT.out; omega))) (fun hHeld => ?_)
              clear hK K
              try simp only [Act.put]
              refine wpAnyH_done (by kernel_rfl) ?_ _
              have hM8 := HM7.out.set1 (.slice a7 (withL S.know zst zq).length c7) HN7.out (fun q hq => ⟨by have h8 := (HF7.out q hq).1; have h9 := HM6.out.fr.size; simp only [World.size_drew] at h8; omega, (HF7.out q hq).2, fun e => by have h8 := (HF7.out q hq).1; have h9 := (HM6.out.vb q e).2.1; simp only [World.size_drew] at h8; omega⟩)
              have HM8 := Lib.hid hM8
              have hb8 := R9.other HBX7.out (World.heap_setCell_off w7 b 1 (.slice a7 (withL S.know zst zq).length c7) w.heap.size (by have h8 := HLT.out; omega))
              obtain ⟨w8, hw8⟩ : ∃ x, w7.setCell ⟨b, 1, none⟩ (.slice a7 (withL S.know zst zq).length c7) = x := ⟨_, rfl⟩
              rw [hw8] at HM8 hb8 hM8 ⊢
              have HBX8 := Lib.hid hb8
              clear hb8
              have k3 := hM8.c3
              have f3 : w8.frozen? ⟨b, 3, none⟩ = false := Joins.unfrozen_of_block hM8.obj _
              clear hM8 hw8 hc17 hf17
              go_wp2_with fail
              refine wp_region_held_drew (S := (fun X : World => R9 X w.heap.size 0 ⟨⟨zk, zss, zt, zv, ztier, ⟨zc, zst, zq⟩, zd⟩, za, zcc⟩)) (by kernel_rfl) (R9.later HBX8.out (Below.refl _ _).drew) (fun hHeld => ?_)
              refine wpAnyH_take (i := 0) (oi := ?ny1o) (v := ?ny1v) ?ny1h (by kernel_rfl) (by kernel_rfl) (by kernel_rfl) ?ny1q ?ny1y hHeld ?ny1r
              case ny1h => (simp only [List.getElem?_toArray, List.getElem?_cons_zero]; rfl)
              case ny1q => exact fun _ _ _ h => h
              case ny1y => (refine Or.inl ⟨by first | kernel_rfl | rfl, ?_⟩; intro w hSw; (try dsimp only at hSw); obtain ⟨q0, q1, q2, q3, q4, q5, q6, q7, q8⟩ := hSw; dsimp only at q0 q1 q2 q3 q4 q5 q6 q7 q8; go_simp <;> (try with_reducible rfl))
              try simp only [Act.put, List.setIfInBounds_toArray, List.set_cons_zero, List.set_cons_succ]
              refine wpAnyH_take (i := 1) (oi := ?ny2o) (v := ?ny2v) ?ny2h (by kernel_rfl) (by kernel_rfl) (by kernel_rfl) ?ny2q ?ny2y hHeld ?ny2r
              case ny2h => (simp only [List.getElem?_toArray, List.getElem?_cons_succ, List.getElem?_cons_zero]; rfl)
              case ny2q => exact fun _ _ _ h => h
              case ny2y => (refine Or.inl ⟨by first | kernel_rfl | rfl, ?_⟩; intro w hSw; (try dsimp only at hSw); obtain ⟨q0, q1, q2, q3, q4, q5, q6, q7, q8⟩ := hSw; dsimp only at q0 q1 q2 q3 q4 q5 q6 q7 q8; go_simp <;> (try with_reducible rfl))
              try simp only [Act.put, List.setIfInBounds_toArray, List.set_cons_zero, List.set_cons_succ]
              refine wpAnyH_take (i := 2) (oi := ?ny3o) (v := ?ny3v) ?ny3h (by kernel_rfl) (by kernel_rfl) (by kernel_rfl) ?ny3q ?ny3y hHeld ?ny3r
              case ny3h => (simp only [List.getElem?_toArray, List.getElem?_cons_succ, List.getElem?_cons_zero]; rfl)
              case ny3q => exact fun _ _ _ h => h
              case ny3y => (refine Or.inl ⟨by first | kernel_rfl | rfl, ?_⟩; intro w hSw; (try dsimp only at hSw); obtain ⟨q0, q1, q2, q3, q4, q5, q6, q7, q8⟩ := hSw; dsimp only at q0 q1 q2 q3 q4 q5 q6 q7 q8; go_simp <;> (try with_reducible rfl))
              try simp only [Act.put, List.setIfInBounds_toArray, List.set_cons_zero, List.set_cons_succ]
              refine wpAnyH_take (i := 3) (oi := ?ny4o) (v := ?ny4v) ?ny4h (by kernel_rfl) (by kernel_rfl) (by kernel_rfl) ?ny4q ?ny4y hHeld ?ny4r
              case ny4h => (simp only [List.getElem?_toArray, List.getElem?_cons_succ, List.getElem?_cons_zero]; rfl)
              case ny4q => exact fun _ _ _ h => h
              case ny4y => (refine Or.inl ⟨by first | kernel_rfl | rfl, ?_⟩; intro w hSw; (try dsimp only at hSw); obtain ⟨q0, q1, q2, q3, q4, q5, q6, q7, q8⟩ := hSw; dsimp only at q0 q1 q2 q3 q4 q5 q6 q7 q8; go_simp <;> (try with_reducible rfl))
              try simp only [Act.put, List.setIfInBounds_toArray, List.set_cons_zero, List.set_cons_succ]
              refine wpAnyH_take (i := 5) (oi := ?ny5o) (v := ?ny5v) ?ny5h (by kernel_rfl) (by kernel_rfl) (by kernel_rfl) ?ny5q ?ny5y hHeld ?ny5r
              case ny5h => (simp only [List.getElem?_toArray, List.getElem?_cons_succ, List.getElem?_cons_zero]; rfl)
              case ny5q => exact fun _ _ _ h => h
              case ny5y => (refine Or.inl ⟨by first | kernel_rfl | rfl, ?_⟩; intro w hSw; (try dsimp only at hSw); obtain ⟨q0, q1, q2, q3, q4, q5, q6, q7, q8⟩ := hSw; dsimp only at q0 q1 q2 q3 q4 q5 q6 q7 q8; go_simp <;> (try with_reducible rfl))
              try simp only [Act.put, List.setIfInBounds_toArray, List.set_cons_zero, List.set_cons_succ]
              refine wpAnyH_take (i := 6) (oi := ?ny6o) (v := ?ny6v) ?ny6h (by kernel_rfl) (by kernel_rfl) (by kernel_rfl) ?ny6q ?ny6y hHeld ?ny6r
              case ny6h => (simp only [List.getElem?_toArray, List.getElem?_cons_succ, List.getElem?_cons_zero]; rfl)
              case ny6q => exact fun _ _ _ h => h
              case ny6y => (refine Or.inl ⟨by first | kernel_rfl | rfl, ?_⟩; intro w hSw; (try dsimp only at hSw); obtain ⟨q0, q1, q2, q3, q4, q5, q6, q7, q8⟩ := hSw; dsimp only at q0 q1 q2 q3 q4 q5 q6 q7 q8; go_simp <;> (try with_reducible rfl))
              try simp only [Act.put, List.setIfInBounds_toArray, List.set_cons_zero, List.set_cons_succ]
              refine wpAnyH_take (i := 7) (oi := ?ny7o) (v := ?ny7v) ?ny7h (by kernel_rfl) (by kernel_rfl) (by kernel_rfl) ?ny7q ?ny7y hHeld ?ny7r
              case ny7h => (simp only [List.getElem?_toArray, List.getElem?_cons_succ, List.getElem?_cons_zero]; rfl)
              case ny7q => exact fun _ _ _ h => h
              case ny7y => (refine Or.inl ⟨by first | kernel_rfl | rfl, ?_⟩; intro w hSw; (try dsimp only at hSw); obtain ⟨q0, q1, q2, q3, q4, q5, q6, q7, q8⟩ := hSw; dsimp only at q0 q1 q2 q3 q4 q5 q6 q7 q8; go_simp <;> (try with_reducible rfl))
              try simp only [Act.put, List.setIfInBounds_toArray, List.set_cons_zero, List.set_cons_succ]
              refine wpAnyH_ready (rs := [4]) (by kernel_rfl) (by simp) ?_
              refine (AllReadyH.cons rfl (fun K hK => ?_) AllReadyH.nil)
              go_simp
              skip
              refine hK.out _ _ (hHeld) (fun hHeld => ?_)
              clear hK K
              try simp only [Act.put, List.setIfInBounds_toArray, List.set_cons_zero, List.set_cons_succ]
              refine wpAnyH_take (i := 8) (oi := ?ny8o) (v := ?ny8v) ?ny8h (by kernel_rfl) (by kernel_rfl) (by kernel_rfl) ?ny8q ?ny8y hHeld ?ny8r
              case ny8h => (simp only [List.getElem?_toArray, List.getElem?_cons_succ, List.getElem?_cons_zero]; rfl)
              case ny8q => exact fun _ _ _ h => h
              case ny8y => (refine Or.inl ⟨by first | kernel_rfl | rfl, ?_⟩; intro w hSw; (try dsimp only at hSw); obtain ⟨q0, q1, q2, q3, q4, q5, q6, q7, q8⟩ := hSw; dsimp only at q0 q1 q2 q3 q4 q5 q6 q7 q8; go_simp <;> (try with_reducible rfl))
              try simp only [Act.put, List.setIfInBounds_toArray, List.set_cons_zero, List.set_cons_succ]
              refine wpAnyH_take (i := 9) (oi := ?ny9o) (v := ?ny9v) ?ny9h (by kernel_rfl) (by kernel_rfl) (by kernel_rfl) ?ny9q ?ny9y hHeld ?ny9r
              case ny9h => (simp only [List.getElem?_toArray, List.getElem?_cons_succ, List.getElem?_cons_zero]; rfl)
              case ny9q => exact fun _ _ _ h => h
              case ny9y => (refine Or.inl ⟨by first | kernel_rfl | rfl, ?_⟩; intro w hSw; (try dsimp only at hSw); obtain ⟨q0, q1, q2, q3, q4, q5, q6, q7, q8⟩ := hSw; dsimp only at q0 q1 q2 q3 q4 q5 q6 q7 q8; go_simp <;> (try with_reducible rfl))
              try simp only [Act.put, List.setIfInBounds_toArray, List.set_cons_zero, List.set_cons_succ]
              refine wpAnyH_take (i := 10) (oi := ?ny10o) (v := ?ny10v) ?ny10h (by kernel_rfl) (by kernel_rfl) (by kernel_rfl) ?ny10q ?ny10y hHeld ?ny10r
              case ny10h => (simp only [List.getElem?_toArray, List.getElem?_cons_succ, List.getElem?_cons_zero]; rfl)
              case ny10q => exact fun _ _ _ h => h
              case ny10y => (refine Or.inl ⟨by first | kernel_rfl | rfl, ?_⟩; intro w hSw; (try dsimp only at hSw); obtain ⟨q0, q1, q2, q3, q4, q5, q6, q7, q8⟩ := hSw; dsimp only at q0 q1 q2 q3 q4 q5 q6 q7 q8; go_simp <;> (try with_reducible rfl))
              try simp only [Act.put, List.setIfInBounds_toArray, List.set_cons_zero, List.set_cons_succ]
              refine wpAnyH_ready (rs := [11]) (by kernel_rfl) (by simp) ?_
              refine (AllReadyH.cons rfl (fun K hK => ?_) AllReadyH.nil)
              go_simp
              skip
              refine hK.out _ _ (R9.other hHeld (World.heap_setCell_off _ b 3 _ w.heap.size (by have h8 := HLT.out; omega))) (fun hHeld => ?_)
              clear hK K
              try simp only [Act.put]
              refine wpAnyH_done (by kernel_rfl) ?_ _
              go_wp2
              go_ret
              refine ⟨by rw [HE.out]; rfl, ?_⟩
              rw [addS_yes HE.out]
              have hfin := HM8.out.done (by have h8 := HREST.out.1; rw [HNL.out] at h8; exact h8) HREST.out.2 HE.out rfl
              exact ⟨hfin.1.later (Below.refl _ _).drew, FrF.next hfin.2 (FrF.of (Below.refl _ _).drew) (fun _ _ e => e)⟩
            ·
              go_simp
              skip
              refine hK.out _ _ (HBX4.out) (fun hHeld => ?_)
              clear hK K
              try simp only [Act.put, List.setIfInBounds_toArray, List.set_cons_zero, List.set_cons_succ]
              refine wpAnyH_ready (rs := [4]) (by kernel_rfl) (by simp) ?_
              refine (AllReadyH.cons rfl (fun K hK => ?_) AllReadyH.nil)
              go_simp
              skip
              refine hK.out _ _ (hHeld) (fun hHeld => ?_)
              clear hK K
              try simp only [Act.put, List.setIfInBounds_toArray, List.set_cons_zero, List.set_cons_succ]
              refine wpAnyH_ready (rs := [8]) (by kernel_rfl) (by simp) ?_
              refine (AllReadyH.cons rfl (fun K hK => ?_) AllReadyH.nil)
              refine (if_pos (by kernel_rfl)).mpr ?_
              refine Lib.wp_append_run _ _ _ _ _ rfl _ _ rfl rfl _ _ hrun ?_
              refine hK.out _ _ (HBX5.out) (fun hHeld => ?_)
              clear hK K
              try simp only [Act.put, List.setIfInBounds_toArray, List.set_cons_zero, List.set_cons_succ]
              refine wpAnyH_take (i := 9) (oi := ?o10o) (v := ?o10v) ?o10h (by kernel_rfl) (by kernel_rfl) (by kernel_rfl) ?o10q ?o10y hHeld ?o10r
              case o10h => (simp only [List.getElem?_toArray, List.getElem?_cons_succ, List.getElem?_cons_zero]; rfl)
              case o10q => exact fun _ _ _ h => h
              case o10y => (refine Or.inl ⟨by first | kernel_rfl | rfl, ?_⟩; intro w hSw; (try dsimp only at hSw); obtain ⟨q0, q1, q2, q3, q4, q5, q6, q7, q8⟩ := hSw; dsimp only at q0 q1 q2 q3 q4 q5 q6 q7 q8; go_simp <;> (try with_reducible rfl))
              try simp only [Act.put, List.setIfInBounds_toArray, List.set_cons_zero, List.set_cons_succ]
              refine wpAnyH_take (i := 10) (oi := ?o11o) (v := ?o11v) ?o11h (by kernel_rfl) (by kernel_rfl) (by kernel_rfl) ?o11q ?o11y hHeld ?o11r
              case o11h => (simp only [List.getElem?_toArray, List.getElem?_cons_succ, List.getElem?_cons_zero]; rfl)
              case o11q => exact fun _ _ _ h => h
              case o11y => (refine Or.inl ⟨by first | kernel_rfl | rfl, ?_⟩; intro w hSw; (try dsimp only at hSw); obtain ⟨q0, q1, q2, q3, q4, q5, q6, q7, q8⟩ := hSw; dsimp only at q0 q1 q2 q3 q4 q5 q6 q7 q8; go_simp <;> (try with_reducible rfl))
              try simp only [Act.put, List.setIfInBounds_toArray, List.set_cons_zero, List.set_cons_succ]
              refine wpAnyH_ready (rs := [11]) (by kernel_rfl) (by simp) ?_
              refine (AllReadyH.cons rfl (fun K hK => ?_) AllReadyH.nil)
              go_simp
              skip
              refine hK.out _ _ (R9.other HBX5.out (World.heap_setCell_off w5 b 2 (.slice a5 (n + 1) c5) w.heap.size (by have h8 := HLT.out; omega))) (fun hHeld => ?_)
              clear hK K
              try simp only [Act.put]
              refine wpAnyH_done (by kernel_rfl) ?_ _
              have hM6 := HD.out.set2
              have HM6 := Lib.hid hM6
              have hb6 := R9.other HBX5.out (World.heap_setCell_off w5 b 2 (.slice a5 (n + 1) c5) w.heap.size (by have h8 := HLT.out; omega))
              obtain ⟨w6, hw6⟩ : ∃ x, w5.setCell ⟨b, 2, none⟩ (.slice a5 (n + 1) c5) = x := ⟨_, rfl⟩
              rw [hw6] at HM6 hb6 hM6 ⊢
              have HBX6 := Lib.hid hb6
              clear hb6
              have k1 := hM6.c1
              clear hM6 hw6 hrun hc25 hf25
              go_wp2_with fail
              refine wp_region_held_drew (S := (fun X : World => R9 X w.heap.size 0 ⟨⟨zk, zss, zt, zv, ztier, ⟨zc, zst, zq⟩, zd⟩, za, zcc⟩)) (by kernel_rfl) (R9.later HBX6.out (Below.refl _ _).drew) (fun hHeld => ?_)
              refine wpAnyH_take (i := 0) (oi := ?mz1o) (v := ?mz1v) ?mz1h (by kernel_rfl) (by kernel_rfl) (by kernel_rfl) ?mz1q ?mz1y hHeld ?mz1r
              case mz1h => (simp only [List.getElem?_toArray, List.getElem?_cons_zero]; rfl)
              case mz1q => exact fun _ _ _ h => h
              case mz1y => (refine Or.inl ⟨by first | kernel_rfl | rfl, ?_⟩; intro w hSw; (try dsimp only at hSw); obtain ⟨q0, q1, q2, q3, q4, q5, q6, q7, q8⟩ := hSw; dsimp only at q0 q1 q2 q3 q4 q5 q6 q7 q8; go_simp <;> (try with_reducible rfl))
              try simp only [Act.put, List.setIfInBounds_toArray, List.set_cons_zero, List.set_cons_succ]
              refine wpAnyH_take (i := 1) (oi := ?mz2o) (v := ?mz2v) ?mz2h (by kernel_rfl) (by kernel_rfl) (by kernel_rfl) ?mz2q ?mz2y hHeld ?mz2r
              case mz2h => (simp only [List.getElem?_toArray, List.getElem?_cons_succ, List.getElem?_cons_zero]; rfl)
              case mz2q => exact fun _ _ _ h => h
              case mz2y => (refine Or.inl ⟨by first | kernel_rfl | rfl, ?_⟩; intro w hSw; (try dsimp only at hSw); obtain ⟨q0, q1, q2, q3, q4, q5, q6, q7, q8⟩ := hSw; dsimp only at q0 q1 q2 q3 q4 q5 q6 q7 q8; go_simp <;> (try with_reducible rfl))
              try simp only [Act.put, List.setIfInBounds_toArray, List.set_cons_zero, List.set_cons_succ]
              refine wpAnyH_take (i := 2) (oi := ?mz3o) (v := ?mz3v) ?mz3h (by kernel_rfl) (by kernel_rfl) (by kernel_rfl) ?mz3q ?mz3y hHeld ?mz3r
              case mz3h => (simp only [List.getElem?_toArray, List.getElem?_cons_succ, List.getElem?_cons_zero]; rfl)
              case mz3q => exact fun _ _ _ h => h
              case mz3y => (refine Or.inl ⟨by first | kernel_rfl | rfl, ?_⟩; intro w hSw; (try dsimp only at hSw); obtain ⟨q0, q1, q2, q3, q4, q5, q6, q7, q8⟩ := hSw; dsimp only at q0 q1 q2 q3 q4 q5 q6 q7 q8; go_simp <;> (try with_reducible rfl))
              try simp only [Act.put, List.setIfInBounds_toArray, List.set_cons_zero, List.set_cons_succ]
              refine wpAnyH_take (i := 3) (oi := ?mz4o) (v := ?mz4v) ?mz4h (by kernel_rfl) (by kernel_rfl) (by kernel_rfl) ?mz4q ?mz4y hHeld ?mz4r
              case mz4h => (simp only [List.getElem?_toArray, List.getElem?_cons_succ, List.getElem?_cons_zero]; rfl)
              case mz4q => exact fun _ _ _ h => h
              case mz4y => (refine Or.inl ⟨by first | kernel_rfl | rfl, ?_⟩; intro w hSw; (try dsimp only at hSw); obtain ⟨q0, q1, q2, q3, q4, q5, q6, q7, q8⟩ := hSw; dsimp only at q0 q1 q2 q3 q4 q5 q6 q7 q8; go_simp <;> (try with_reducible rfl))
              try simp only [Act.put, List.setIfInBounds_toArray, List.set_cons_zero, List.set_cons_succ]
              refine wpAnyH_take (i := 5) (oi := ?mz5o) (v := ?mz5v) ?mz5h (by kernel_rfl) (by kernel_rfl) (by kernel_rfl) ?mz5q ?mz5y hHeld ?mz5r
              case mz5h => (simp only [List.getElem?_toArray, List.getElem?_cons_succ, List.getElem?_cons_zero]; rfl)
              case mz5q => exact fun _ _ _ h => h
              case mz5y => (refine Or.inl ⟨by first | kernel_rfl | rfl, ?_⟩; intro w hSw; (try dsimp only at hSw); obtain ⟨q0, q1, q2, q3, q4, q5, q6, q7, q8⟩ := hSw; dsimp only at q0 q1 q2 q3 q4 q5 q6 q7 q8; go_simp <;> (try with_reducible rfl))
              try simp only [Act.put, List.setIfInBounds_toArray, List.set_cons_zero, List.set_cons_succ]
              refine wpAnyH_take (i := 6) (oi := ?mz6o) (v := ?mz6v) ?mz6h (by kernel_rfl) (by kernel_rfl) (by kernel_rfl) ?mz6q ?mz6y hHeld ?mz6r
              case mz6h => (simp only [List.getElem?_toArray, List.getElem?_cons_succ, List.getElem?_cons_zero]; rfl)
              case mz6q => exact fun _ _ _ h => h
              case mz6y => (refine Or.inl ⟨by first | kernel_rfl | rfl, ?_⟩; intro w hSw; (try dsimp only at hSw); obtain ⟨q0, q1, q2, q3, q4, q5, q6, q7, q8⟩ := hSw; dsimp only at q0 q1 q2 q3 q4 q5 q6 q7 q8; go_simp <;> (try with_reducible rfl))
              try simp only [Act.put, List.setIfInBounds_toArray, List.set_cons_zero, List.set_cons_succ]
              refine wpAnyH_take (i := 7) (oi := ?mz7o) (v := ?mz7v) ?mz7h (by kernel_rfl) (by kernel_rfl) (by kernel_rfl) ?mz7q ?mz7y hHeld ?mz7r
              case mz7h => (simp only [List.getElem?_toArray, List.getElem?_cons_succ, List.getElem?_cons_zero]; rfl)
              case mz7q => exact fun _ _ _ h => h
              case mz7y => (refine Or.inl ⟨by first | kernel_rfl | rfl, ?_⟩; intro w hSw; (try dsimp only at hSw); obtain ⟨q0, q1, q2, q3, q4, q5, q6, q7, q8⟩ := hSw; dsimp only at q0 q1 q2 q3 q4 q5 q6 q7 q8; go_simp <;> (try with_reducible rfl))
              try simp only [Act.put, List.setIfInBounds_toArray, List.set_cons_zero, List.set_cons_succ]
              refine wpAnyH_take (i := 8) (oi := ?mz8o) (v := ?mz8v) ?mz8h (by kernel_rfl) (by kernel_rfl) (by kernel_rfl) ?mz8q ?mz8y hHeld ?mz8r
              case mz8h => (simp only [List.getElem?_toArray, List.getElem?_cons_succ, List.getElem?_cons_zero]; rfl)
              case mz8q => exact fun _ _ _ h => h
              case mz8y => (refine Or.inl ⟨by first | kernel_rfl | rfl, ?_⟩; intro w hSw; (try dsimp only at hSw); obtain ⟨q0, q1, q2, q3, q4, q5, q6, q7, q8⟩ := hSw; dsimp only at q0 q1 q2 q3 q4 q5 q6 q7 q8; go_simp <;> (try with_reducible rfl))
              try simp only [Act.put, List.setIfInBounds_toArray, List.set_cons_zero, List.set_cons_succ]
              refine wpAnyH_take (i := 9) (oi := ?mz9o) (v := ?mz9v) ?mz9h (by kernel_rfl) (by kernel_rfl) (by kernel_rfl) ?mz9q ?mz9y hHeld ?mz9r
              case mz9h => (simp only [List.getElem?_toArray, List.getElem?_cons_succ, List.getElem?_cons_zero]; rfl)
              case mz9q => exact fun _ _ _ h => h
              case mz9y => (refine Or.inl ⟨by first | kernel_rfl | rfl, ?_⟩; intro w hSw; (try dsimp only at hSw); obtain ⟨q0, q1, q2, q3, q4, q5, q6, q7, q8⟩ := hSw; dsimp only at q0 q1 q2 q3 q4 q5 q6 q7 q8; go_simp <;> (try with_reducible rfl))
              try simp only [Act.put, List.setIfInBounds_toArray, List.set_cons_zero, List.set_cons_succ]
              refine wpAnyH_take (i := 10) (oi := ?mz10o) (v := ?mz10v) ?mz10h (by kernel_rfl) (by kernel_rfl) (by kernel_rfl) ?mz10q ?mz10y hHeld ?mz10r
              case mz10h => (simp only [List.getElem?_toArray, List.getElem?_cons_succ, List.getElem?_cons_zero]; rfl)
              case mz10q => exact fun _ _ _ h => h
              case mz10y => (refine Or.inl ⟨by first | kernel_rfl | rfl, ?_⟩; intro w hSw; (try dsimp only at hSw); obtain ⟨q0, q1, q2, q3, q4, q5, q6, q7, q8⟩ := hSw; dsimp only at q0 q1 q2 q3 q4 q5 q6 q7 q8; go_simp <;> (try with_reducible rfl))
              try simp only [Act.put, List.setIfInBounds_toArray, List.set_cons_zero, List.set_cons_succ]
              refine wpAnyH_ready (rs := [4]) (by kernel_rfl) (by simp) ?_
              refine (AllReadyH.cons rfl (fun K hK => ?_) AllReadyH.nil)
              go_simp
              skip
              refine hK.out _ _ (hHeld) (fun hHeld => ?_)
              clear hK K
              try simp only [Act.put, List.setIfInBounds_toArray, List.set_cons_zero, List.set_cons_succ]
              refine wpAnyH_ready (rs := [11]) (by kernel_rfl) (by simp) ?_
              refine (AllReadyH.cons rfl (fun K hK => ?_) AllReadyH.nil)
              go_simp
              (go_at_call 46; (with_reducible refine (HWT.out _ _ (Ns.later HM6.out.kn (Below.refl _ _).drew)).mono ?_); rintro e w7 ⟨v7, rfl, hn7, hb7, hf7⟩; (obtain ⟨a7, c7, rfl⟩ := hn7.slice); (have hM7 := HM6.out.later (bel_next (Below.refl _ _).drew hb7)); (have HM7 := Lib.hid hM7); (have HN7 := Lib.hid hn7); (have HF7 := Lib.hid hf7); (have HBX7 := Lib.hid ((HBX6.out.later (Below.refl _ _).drew).later hb7)); (have hc17 := hM7.c1); (have hf17 : w7.frozen? ⟨b, 1, none⟩ = false := Joins.unfrozen_of_block hM7.obj _); (clear hM7 hn7 hb7 hf7))
              refine hK.out _ _ (HBX7.out) (fun hHeld => ?_)
              clear hK K
              try simp only [Act.put, List.setIfInBounds_toArray, List.set_cons_zero, List.set_cons_succ]
              refine wpAnyH_take (i := 12) (oi := ?mz11o) (v := ?mz11v) ?mz11h (by kernel_rfl) (by kernel_rfl) (by kernel_rfl) ?mz11q ?mz11y hHeld ?mz11r
              case mz11h => (simp only [List.getElem?_toArray, List.getElem?_cons_succ, List.getElem?_cons_zero]; rfl)
              case mz11q => exact fun _ _ _ h => h
              case mz11y => (refine Or.inl ⟨by first | kernel_rfl | rfl, ?_⟩; intro w hSw; (try dsimp only at hSw); obtain ⟨q0, q1, q2, q3, q4, q5, q6, q7, q8⟩ := hSw; dsimp only at q0 q1 q2 q3 q4 q5 q6 q7 q8; go_simp <;> (try with_reducible rfl))
              try simp only [Act.put, List.setIfInBounds_toArray, List.set_cons_zero, List.set_cons_succ]
              refine wpAnyH_take (i := 13) (oi := ?mz12o) (v := ?mz12v) ?mz12h (by kernel_rfl) (by kernel_rfl) (by kernel_rfl) ?mz12q ?mz12y hHeld ?mz12r
              case mz12h => (simp only [List.getElem?_toArray, List.getElem?_cons_succ, List.getElem?_cons_zero]; rfl)
              case mz12q => exact fun _ _ _ h => h
              case mz12y => (refine Or.inl ⟨by first | kernel_rfl | rfl, ?_⟩; intro w hSw; (try dsimp only at hSw); obtain ⟨q0, q1, q2, q3, q4, q5, q6, q7, q8⟩ := hSw; dsimp only at q0 q1 q2 q3 q4 q5 q6 q7 q8; go_simp <;> (try with_reducible rfl))
              try simp only [Act.put, List.setIfInBounds_toArray, List.set_cons_zero, List.set_cons_succ]
              refine wpAnyH_ready (rs := [14]) (by kernel_rfl) (by simp) ?_
              refine (AllReadyH.cons rfl (fun K hK => ?_) AllReadyH.nil)
              go_simp
              skip
              refine hK.out _ _ (R9.other HBX7.out (World.heap_setCell_off _ b 1 _ w.heap.size (by have h8 := HLT.out; omega))) (fun hHeld => ?_)
              clear hK K
              try simp only [Act.put]
              refine wpAnyH_done (by kernel_rfl) ?_ _
              have hM8 := HM7.out.set1 (.slice a7 (withL S.know zst zq).length c7) HN7.out (fun q hq => ⟨by have h8 := (HF7.out q hq).1; have h9 := HM6.out.fr.size; simp only [World.size_drew] at h8; omega, (HF7.out q hq).2, fun e => by have h8 := (HF7.out q hq).1; have h9 := (HM6.out.vb q e).2.1; simp only [World.size_drew] at h8; omega⟩)
              have HM8 := Lib.hid hM8
              have hb8 := R9.other HBX7.out (World.heap_setCell_off w7 b 1 (.slice a7 (withL S.know zst zq).length c7) w.heap.size (by have h8 := HLT.out; omega))
              obtain ⟨w8, hw8⟩ : ∃ x, w7.setCell ⟨b, 1, none⟩ (.slice a7 (withL S.know zst zq).length c7) = x := ⟨_, rfl⟩
              rw [hw8] at HM8 hb8 hM8 ⊢
              have HBX8 := Lib.hid hb8
              clear hb8
              have k3 := hM8.c3
              have f3 : w8.frozen? ⟨b, 3, none⟩ = false := Joins.unfrozen_of_block hM8.obj _
              clear hM8 hw8 hc17 hf17
              go_wp2_with fail
              refine wp_region_held_drew (S := (fun X : World => R9 X w.heap.size 0 ⟨⟨zk, zss, zt, zv, ztier, ⟨zc, zst, zq⟩, zd⟩, za, zcc⟩)) (by kernel_rfl) (R9.later HBX8.out (Below.refl _ _).drew) (fun hHeld => ?_)
              refine wpAnyH_take (i := 0) (oi := ?nz1o) (v := ?nz1v) ?nz1h (by kernel_rfl) (by kernel_rfl) (by kernel_rfl) ?nz1q ?nz1y hHeld ?nz1r
              case nz1h => (simp only [List.getElem?_toArray, List.getElem?_cons_zero]; rfl)
              case nz1q => exact fun _ _ _ h => h
              case nz1y => (refine Or.inl ⟨by first | kernel_rfl | rfl, ?_⟩; intro w hSw; (try dsimp only at hSw); obtain ⟨q0, q1, q2, q3, q4, q5, q6, q7, q8⟩ := hSw; dsimp only at q0 q1 q2 q3 q4 q5 q6 q7 q8; go_simp <;> (try with_reducible rfl))
              try simp only [Act.put, List.setIfInBounds_toArray, List.set_cons_zero, List.set_cons_succ]
              refine wpAnyH_take (i := 1) (oi := ?nz2o) (v := ?nz2v) ?nz2h (by kernel_rfl) (by kernel_rfl) (by kernel_rfl) ?nz2q ?nz2y hHeld ?nz2r
              case nz2h => (simp only [List.getElem?_toArray, List.getElem?_cons_succ, List.getElem?_cons_zero]; rfl)
              case nz2q => exact fun _ _ _ h => h
              case nz2y => (refine Or.inl ⟨by first | kernel_rfl | rfl, ?_⟩; intro w hSw; (try dsimp only at hSw); obtain ⟨q0, q1, q2, q3, q4, q5, q6, q7, q8⟩ := hSw; dsimp only at q0 q1 q2 q3 q4 q5 q6 q7 q8; go_simp <;> (try with_reducible rfl))
              try simp only [Act.put, List.setIfInBounds_toArray, List.set_cons_zero, List.set_cons_succ]
              refine wpAnyH_take (i := 2) (oi := ?nz3o) (v := ?nz3v) ?nz3h (by kernel_rfl) (by kernel_rfl) (by kernel_rfl) ?nz3q ?nz3y hHeld ?nz3r
              case nz3h => (simp only [List.getElem?_toArray, List.getElem?_cons_succ, List.getElem?_cons_zero]; rfl)
              case nz3q => exact fun _ _ _ h => h
              case nz3y => (refine Or.inl ⟨by first | kernel_rfl | rfl, ?_⟩; intro w hSw; (try dsimp only at hSw); obtain ⟨q0, q1, q2, q3, q4, q5, q6, q7, q8⟩ := hSw; dsimp only at q0 q1 q2 q3 q4 q5 q6 q7 q8; go_simp <;> (try with_reducible rfl))
              try simp only [Act.put, List.setIfInBounds_toArray, List.set_cons_zero, List.set_cons_succ]
              refine wpAnyH_take (i := 3) (oi := ?nz4o) (v := ?nz4v) ?nz4h (by kernel_rfl) (by kernel_rfl) (by kernel_rfl) ?nz4q ?nz4y hHeld ?nz4r
              case nz4h => (simp only [List.getElem?_toArray, List.getElem?_cons_succ, List.getElem?_cons_zero]; rfl)
              case nz4q => exact fun _ _ _ h => h
              case nz4y => (refine Or.inl ⟨by first | kernel_rfl | rfl, ?_⟩; intro w hSw; (try dsimp only at hSw); obtain ⟨q0, q1, q2, q3, q4, q5, q6, q7, q8⟩ := hSw; dsimp only at q0 q1 q2 q3 q4 q5 q6 q7 q8; go_simp <;> (try with_reducible rfl))
              try simp only [Act.put, List.setIfInBounds_toArray, List.set_cons_zero, List.set_cons_succ]
              refine wpAnyH_take (i := 5) (oi := ?nz5o) (v := ?nz5v) ?nz5h (by kernel_rfl) (by kernel_rfl) (by kernel_rfl) ?nz5q ?nz5y hHeld ?nz5r
              case nz5h => (simp only [List.getElem?_toArray, List.getElem?_cons_succ, List.getElem?_cons_zero]; rfl)
              case nz5q => exact fun _ _ _ h => h
              case nz5y => (refine Or.inl ⟨by first | kernel_rfl | rfl, ?_⟩; intro w hSw; (try dsimp only at hSw); obtain ⟨q0, q1, q2, q3, q4, q5, q6, q7, q8⟩ := hSw; dsimp only at q0 q1 q2 q3 q4 q5 q6 q7 q8; go_simp <;> (try with_reducible rfl))
              try simp only [Act.put, List.setIfInBounds_toArray, List.set_cons_zero, List.set_cons_succ]
              refine wpAnyH_take (i := 6) (oi := ?nz6o) (v := ?nz6v) ?nz6h (by kernel_rfl) (by kernel_rfl) (by kernel_rfl) ?nz6q ?nz6y hHeld ?nz6r
              case nz6h => (simp only [List.getElem?_toArray, List.getElem?_cons_succ, List.getElem?_cons_zero]; rfl)
              case nz6q => exact fun _ _ _ h => h
              case nz6y => (refine Or.inl ⟨by first | kernel_rfl | rfl, ?_⟩; intro w hSw; (try dsimp only at hSw); obtain ⟨q0, q1, q2, q3, q4, q5, q6, q7, q8⟩ := hSw; dsimp only at q0 q1 q2 q3 q4 q5 q6 q7 q8; go_simp <;> (try with_reducible rfl))
              try simp only [Act.put, List.setIfInBounds_toArray, List.set_cons_zero, List.set_cons_succ]
              refine wpAnyH_take (i := 7) (oi := ?nz7o) (v := ?nz7v) ?nz7h (by kernel_rfl) (by kernel_rfl) (by kernel_rfl) ?nz7q ?nz7y hHeld ?nz7r
              case nz7h => (simp only [List.getElem?_toArray, List.getElem?_cons_succ, List.getElem?_cons_zero]; rfl)
              case nz7q => exact fun _ _ _ h => h
              case nz7y => (refine Or.inl ⟨by first | kernel_rfl | rfl, ?_⟩; intro w hSw; (try dsimp only at hSw); obtain ⟨q0, q1, q2, q3, q4, q5, q6, q7, q8⟩ := hSw; dsimp only at q0 q1 q2 q3 q4 q5 q6 q7 q8; go_simp <;> (try with_reducible rfl))
              try simp only [Act.put, List.setIfInBounds_toArray, List.set_cons_zero, List.set_cons_succ]
              refine wpAnyH_ready (rs := [4]) (by kernel_rfl) (by simp) ?_
              refine (AllReadyH.cons rfl (fun K hK => ?_) AllReadyH.nil)
              go_simp
              skip
              refine hK.out _ _ (hHeld) (fun hHeld => ?_)
              clear hK K
              try simp only [Act.put, List.setIfInBounds_toArray, List.set_cons_zero, List.set_cons_succ]
              refine wpAnyH_take (i := 8) (oi := ?nz8o) (v := ?nz8v) ?nz8h (by kernel_rfl) (by kernel_rfl) (by kernel_rfl) ?nz8q ?nz8y hHeld ?nz8r
              case nz8h => (simp only [List.getElem?_toArray, List.getElem?_cons_succ, List.getElem?_cons_zero]; rfl)
              case nz8q => exact fun _ _ _ h => h
              case nz8y => (refine Or.inl ⟨by first | kernel_rfl | rfl, ?_⟩; intro w hSw; (try dsimp only at hSw); obtain ⟨q0, q1, q2, q3, q4, q5, q6, q7, q8⟩ := hSw; dsimp only at q0 q1 q2 q3 q4 q5 q6 q7 q8; go_simp <;> (try with_reducible rfl))
              try simp only [Act.put, List.setIfInBounds_toArray, List.set_cons_zero, List.set_cons_succ]
              refine wpAnyH_take (i := 9) (oi := ?nz9o) (v := ?nz9v) ?nz9h (by kernel_rfl) (by kernel_rfl) (by kernel_rfl) ?nz9q ?nz9y hHeld ?nz9r
              case nz9h => (simp only [List.getElem?_toArray, List.getElem?_cons_succ, List.getElem?_cons_zero]; rfl)
              case nz9q => exact fun _ _ _ h => h
              case nz9y => (refine Or.inl ⟨by first | kernel_rfl | rfl, ?_⟩; intro w hSw; (try dsimp only at hSw); obtain ⟨q0, q1, q2, q3, q4, q5, q6, q7, q8⟩ := hSw; dsimp only at q0 q1 q2 q3 q4 q5 q6 q7 q8; go_simp <;> (try with_reducible rfl))
              try simp only [Act.put, List.setIfInBounds_toArray, List.set_cons_zero, List.set_cons_succ]
              refine wpAnyH_take (i := 10) (oi := ?nz10o) (v := ?nz10v) ?nz10h (by kernel_rfl) (by kernel_rfl) (by kernel_rfl) ?nz10q ?nz10y hHeld ?nz10r
              case nz10h => (simp only [List.getElem?_toArray, List.getElem?_cons_succ, List.getElem?_cons_zero]; rfl)
              case nz10q => exact fun _ _ _ h => h
              case nz10y => (refine Or.inl ⟨by first | kernel_rfl | rfl, ?_⟩; intro w hSw; (try dsimp only at hSw); obtain ⟨q0, q1, q2, q3, q4, q5, q6, q7, q8⟩ := hSw; dsimp only at q0 q1 q2 q3 q4 q5 q6 q7 q8; go_simp <;> (try with_reducible rfl))
              try simp only [Act.put, List.setIfInBounds_toArray, List.set_cons_zero, List.set_cons_succ]
              refine wpAnyH_ready (rs := [11]) (by kernel_rfl) (by simp) ?_
              refine (AllReadyH.cons rfl (fun K hK => ?_) AllReadyH.nil)
              go_simp
              skip
              refine hK.out _ _ (R9.other hHeld (World.heap_setCell_off _ b 3 _ w.heap.size (by have h8 := HLT.out; omega))) (fun hHeld => ?_)
              clear hK K
              try simp only [Act.put]
              refine wpAnyH_done (by kernel_rfl) ?_ _
              go_wp2
              go_ret
              refine ⟨by rw [HE.out]; rfl, ?_⟩
              rw [addS_yes HE.out]
              have hfin := HM8.out.done (by have h8 := HREST.out.1; rw [HNL.out] at h8; exact h8) HREST.out.2 HE.out rfl
              exact ⟨hfin.1.later (Below.refl _ _).drew, FrF.next hfin.2 (FrF.of (Below.refl _ _).drew) (fun _ _ e => e)⟩
      · have hcov : covL S.know zd = false := by simpa using hcov
        have HE := Lib.hid (addE_order (S := S) hok (fun k => by rw [hcov] at k; exact absurd k.2 (by decide)))
        rw [hcov] at HKCO
        clear hO hN hal hf hs kat kco hok hy hfo hF hsz hdl hq hcov ha
        go_enter Try.func20, Try.ntmps20
        go_wp2_with (go_at_call 45; (with_reducible refine kc.mono ?_); rintro e w1 ⟨rfl, hb1⟩; (have HB1 := Lib.hid (bel_next HAL.out hb1)); (have HN1 := Lib.hid (Ns.later HN.out hb1)); (obtain ⟨y0, y1, y2, y3, y4, y5, y6, y7, y8⟩ := HBOX.out.later hb1); dsimp only at y0 y1 y2 y3 y4 y5 y6 y7 y8; (have c1 := (HO.out.later HB1.out).c1); clear hb1)
        go_quiet (first
          | (go_at_call 36; with_reducible refine Calls.quiet_of_same (HKAT.out _ HB1.out _))
          | (go_at_call 41; with_reducible refine Calls.quiet_of_same (HKCO.out _ HB1.out HN1.out _)))
        go_wp2
        go_ret
        refine ⟨by rw [HE.out]; rfl, ?_, FrF.of (below_drewN HB1.out _)⟩
        rw [addS_no (by rw [HE.out]; decide)]
        exact HH.out.kept (below_drewN HB1.out _)
    · have e1 : (zq == y + 1) = false := by simpa using hq
      have e1' : (zq != y + 1) = true := by simp [hq]
      have HE := Lib.hid (addE_order (S := S) hok (fun k => hq (by have := k.1; dsimp only at this; rw [hy] at this; exact this)))
      clear hO hN hal hf hs kat kco hok hy hfo hF hsz hdl hq ha
      go_enter Try.func20, Try.ntmps20
      go_wp2_with (go_at_call 45; (with_reducible refine kc.mono ?_); rintro e w1 ⟨rfl, hb1⟩; (have HB1 := Lib.hid (bel_next HAL.out hb1)); (obtain ⟨y0, y1, y2, y3, y4, y5, y6, y7, y8⟩ := HBOX.out.later hb1); dsimp only at y0 y1 y2 y3 y4 y5 y6 y7 y8; (have c1 := (HO.out.later HB1.out).c1); clear hb1)
      go_quiet ((go_at_call 36; with_reducible refine Calls.quiet_of_same (HKAT.out _ HB1.out _)))
      go_wp2
      go_ret
      refine ⟨by rw [HE.out]; rfl, ?_, FrF.of (below_drewN HB1.out _)⟩
      rw [addS_no (by rw [HE.out]; decide)]
      exact HH.out.kept (below_drewN HB1.out _)
  · have hok : Rec.ok ⟨zk, zss, zt, zv, ztier, ⟨zc, zst, zq⟩, zd⟩ = false := by simpa using hok
    rw [show Rec.err ⟨zk, zss, zt, zv, ztier, ⟨zc, zst, zq⟩, zd⟩ = 1 from Rec.err_no hok] at kc
    have HE := Lib.hid (addE_arg (S := S) hok)
    clear hO hN hal hf hs kat kco hok hfo hF hsz hdl ha
    go_enter Try.func20, Try.ntmps20
    go_wp2_with (go_at_call 45; (with_reducible refine kc.mono ?_); rintro e w1 ⟨rfl, hb1⟩; (have HB1 := Lib.hid (bel_next HAL.out hb1)); clear hb1)
    go_ret
    refine ⟨by rw [HE.out]; rfl, ?_, FrF.of HB1.out⟩
    rw [addS_no (by rw [HE.out]; decide)]
    exact HH.out.kept HB1.out
end Go.Proofs.Ythbajlfkgbfkgaa.Og

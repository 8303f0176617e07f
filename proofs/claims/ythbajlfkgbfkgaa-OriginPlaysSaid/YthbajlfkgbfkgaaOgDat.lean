/- The document's log as it lies in memory. -/
import Derived.Test.YthbajlfkgbfkgaaOgTwo
import Derived.Test.YthbajlfkgbfkgaaOgRef
import Derived.Test.YthbajlfkgbfkgaaSampleG
import Derived.StillTailTactics
set_option maxRecDepth 20000
set_option linter.unusedSimpArgs false
set_option linter.unusedVariables false
namespace Go.Proofs.Ythbajlfkgbfkgaa.Og
open Go.RowKit Go.Proofs.Ythbajlfkgbfkgaa.Vi Go.Proofs.Ythbajlfkgbfkgaa.Mk

structure DAt (w : World) (B b : Nat) (bv v : Value) (zs : List Rd) (S : OS) : Prop where
  obj : w.heap[b]? = some (.cells #[.int .i64 S.room, bv, v, .int .i64 S.clock] 50 (0, 0))
  lo : B ≤ b
  row : ORow w B v zs
  kn : Ns w bv S.base
  deps : ∀ x ∈ zs, Ns w x.dv x.r.d
  apk : ∀ q, bv.ownBlock = some q → B ≤ q ∧ q < w.heap.size ∧ q ≠ b ∧ v.ownBlock ≠ some q
  apd : ∀ x ∈ zs, x.r.d ≠ [] → ∀ q, x.dv.ownBlock = some q → q < B ∨ (q < w.heap.size ∧ q ≠ b ∧ v.ownBlock ≠ some q)
  rs : zs.map Rd.r = S.L
section
variable {w W : World} {B b : Nat} {bv v : Value} {zs : List Rd} {S : OS}
theorem DAt.c0 (h : DAt w B b bv v zs S) : w.cell? ⟨b, 0, none⟩ = some (.int .i64 S.room) := by rw [Joins.cell_of_block h.obj]; rfl
theorem DAt.c1 (h : DAt w B b bv v zs S) : w.cell? ⟨b, 1, none⟩ = some bv := by rw [Joins.cell_of_block h.obj]; rfl
theorem DAt.c2 (h : DAt w B b bv v zs S) : w.cell? ⟨b, 2, none⟩ = some v := by rw [Joins.cell_of_block h.obj]; rfl
theorem DAt.c3 (h : DAt w B b bv v zs S) : w.cell? ⟨b, 3, none⟩ = some (.int .i64 S.clock) := by rw [Joins.cell_of_block h.obj]; rfl
theorem DAt.lt (h : DAt w B b bv v zs S) : b < w.heap.size := (Array.getElem?_eq_some_iff.1 h.obj).1
theorem DAt.fz (h : DAt w B b bv v zs S) (i : Nat) : w.frozen? ⟨b, i, none⟩ = false := Joins.unfrozen_of_block h.obj _
theorem DAt.len (h : DAt w B b bv v zs S) : zs.length = S.L.length := by rw [← h.rs, List.length_map]
theorem DAt.get (h : DAt w B b bv v zs S) {k : Nat} (hz : k < zs.length) (hl : k < S.L.length) : zs[k].r = S.L[k] := by
  have : (zs.map Rd.r)[k]'(by rw [List.length_map]; exact hz) = S.L[k] := by simp only [h.rs]
  rw [← this, List.getElem_map]
theorem DAt.vb (h : DAt w B b bv v zs S) : ∀ q, v.ownBlock = some q → B ≤ q ∧ q < w.heap.size ∧ q ≠ b := by
  intro q hq
  refine ⟨(h.row.lt hq).1, (h.row.lt hq).2, ?_⟩
  obtain ⟨-, cur, e⟩ := h.row.typed hq
  rintro rfl
  rw [h.obj] at e
  injection e with e
  injection e with _ e _
  exact absurd e (by decide)
/-- What a store into the log's own blocks leaves. -/
theorem DAt.step (h : DAt w B b bv v zs S) {bv' v' : Value} {zs' : List Rd} {S' : OS} (ho : W.heap[b]? = some (.cells #[.int .i64 S'.room, bv', v', .int .i64 S'.clock] 50 (0, 0))) (hs : w.heap.size ≤ W.heap.size)
    (same : ∀ q, q < w.heap.size → q ≠ b → v.ownBlock ≠ some q → W.heap[q]? = w.heap[q]?) (hrow : ORow W B v' zs') (hk : Ns W bv' S'.base) (hkq : ∀ q, bv'.ownBlock = some q → B ≤ q ∧ q < W.heap.size ∧ q ≠ b ∧ v'.ownBlock ≠ some q)
    (hz : ∀ x ∈ zs', x ∈ zs ∨ (Ns W x.dv x.r.d ∧ (x.r.d ≠ [] → ∀ q, x.dv.ownBlock = some q → q < B ∨ (q < W.heap.size ∧ q ≠ b ∧ v'.ownBlock ≠ some q)))) (hv : ∀ q, q < w.heap.size → v'.ownBlock = some q → v.ownBlock = some q) (hrs : zs'.map Rd.r = S'.L) : DAt W B b bv' v' zs' S' := by
  refine ⟨ho, h.lo, hrow, hk, fun x hx => ?_, hkq, fun x hx hd q hq => ?_, hrs⟩
  · rcases hz x hx with hx | hx
    · by_cases hd : x.r.d = []
      · obtain ⟨⟨a, c, e, _⟩, n2, n3, _⟩ := h.deps x hx
        exact ⟨⟨a, c, e, Or.inl hd⟩, n2, n3, Nat.le_refl _⟩
      · refine Ns.other (h.deps x hx) hs fun q hq hl => ?_
        rcases h.apd x hx hd q hq with k | k
        · exact same q hl (by have := h.lo; omega) fun e => by have := (h.row.lt e).1; omega
        · exact same q hl k.2.1 k.2.2
    · exact hx.1
  · rcases hz x hx with hx | hx
    · rcases h.apd x hx hd q hq with k | k
      · exact Or.inl k
      · exact Or.inr ⟨by omega, k.2.1, fun e => k.2.2 (hv q k.1 e)⟩
    · exact hx.2 hd q hq
theorem DAt.keep (h : DAt w B b bv v zs S) (hs : w.heap.size ≤ W.heap.size) (kb : W.heap[b]? = w.heap[b]?) (kr : ∀ g, v.ownBlock = some g → W.heap[g]? = w.heap[g]?)
    (kk : ∀ q, bv.ownBlock = some q → W.heap[q]? = w.heap[q]?) (kd : ∀ x ∈ zs, x.r.d ≠ [] → ∀ q, x.dv.ownBlock = some q → q < w.heap.size → W.heap[q]? = w.heap[q]?) : DAt W B b bv v zs S := by
  refine ⟨kb.trans h.obj, h.lo, h.row.other kr, Ns.other h.kn hs (fun q hq _ => kk q hq), fun x hx => ?_, fun q hq => by have := h.apk q hq; exact ⟨this.1, by omega, this.2.2⟩, fun x hx hd q hq => (h.apd x hx hd q hq).imp id fun k => ⟨by omega, k.2⟩, h.rs⟩
  by_cases hd : x.r.d = []
  · obtain ⟨⟨a, c, e, _⟩, n2, n3, _⟩ := h.deps x hx
    exact ⟨⟨a, c, e, Or.inl hd⟩, n2, n3, Nat.le_refl _⟩
  · exact Ns.other (h.deps x hx) hs (kd x hx hd)
theorem DAt.later (h : DAt w B b bv v zs S) (k : Below w.heap.size w W) : DAt W B b bv v zs S :=
  h.keep k.size (k.block _ h.lt) (fun g hg => k.block g (h.row.lt hg).2) (fun q hq => k.block q (h.apk q hq).2.1) fun x _ _ q _ hl => k.block q hl
theorem DAt.set1 (h : DAt w B b bv v zs S) (u : Value) {K : List Int} (hu : Ns w u K) (hq : ∀ q, u.ownBlock = some q → B ≤ q ∧ q < w.heap.size ∧ q ≠ b ∧ v.ownBlock ≠ some q) : DAt (w.setCell ⟨b, 1, none⟩ u) B b u v zs { S with base := K } :=
  h.step (Joins.block_setCell (i := 1) h.obj u) (by simp) (fun q _ hne _ => World.heap_setCell_off w b 1 u q hne) (h.row.other fun q hq => World.heap_setCell_off w b 1 u q (h.vb q hq).2.2)
    (Ns.other hu (by simp) fun q k _ => World.heap_setCell_off w b 1 u q (hq q k).2.2.1) (fun q k => by rw [World.size_setCell]; exact hq q k) (fun x hx => Or.inl hx) (fun q _ e => e) h.rs
theorem DAt.set3 (h : DAt w B b bv v zs S) (c : Int) : DAt (w.setCell ⟨b, 3, none⟩ (.int .i64 c)) B b bv v zs { S with clock := c } :=
  h.step (Joins.block_setCell (i := 3) h.obj (.int .i64 c)) (by simp) (fun q _ hne _ => World.heap_setCell_off w b 3 _ q hne) (h.row.other fun q hq => World.heap_setCell_off w b 3 _ q (h.vb q hq).2.2)
    (Ns.other h.kn (by simp) fun q k _ => World.heap_setCell_off w b 3 _ q (h.apk q k).2.2.1) (fun q k => by rw [World.size_setCell]; exact h.apk q k) (fun x hx => Or.inl hx) (fun q _ e => e) h.rs
/-- The row cut. -/
theorem DAt.set2 (h : DAt w B b bv v zs S) (v' : Value) (k : Nat) (hr : ORow w B v' (zs.drop k)) (hv : ∀ q, v'.ownBlock = some q → v.ownBlock = some q) : DAt (w.setCell ⟨b, 2, none⟩ v') B b bv v' (zs.drop k) { S with L := S.L.drop k } :=
  h.step (Joins.block_setCell (i := 2) h.obj v') (by simp) (fun q _ hne _ => World.heap_setCell_off w b 2 _ q hne) (hr.other fun q hq => World.heap_setCell_off w b 2 _ q (h.vb q (hv q hq)).2.2)
    (Ns.other h.kn (by simp) fun q k _ => World.heap_setCell_off w b 2 _ q (h.apk q k).2.2.1) (fun q k => by rw [World.size_setCell]; have := h.apk q k; exact ⟨this.1, this.2.1, this.2.2.1, fun e => this.2.2.2 (hv q e)⟩) (fun x hx => Or.inl (List.mem_of_mem_drop hx)) (fun q _ e => hv q e) (by rw [List.map_drop, h.rs])
/-- A record appended: W behind the append, its slice stored. -/
theorem DAt.app2 (h : DAt w B b bv v zs S) {v' : Value} {y : Rd} (hr : ORow W B v' (zs ++ [y])) (hs : w.heap.size ≤ W.heap.size) (same : ∀ q, q < w.heap.size → v.ownBlock ≠ some q → W.heap[q]? = w.heap[q]?) (hv : ∀ q, v'.ownBlock = some q → v.ownBlock = some q ∨ w.heap.size ≤ q)
    (hy : Ns w y.dv y.r.d) (hyq : y.r.d ≠ [] → ∀ q, y.dv.ownBlock = some q → q < B ∨ (q < w.heap.size ∧ q ≠ b ∧ v.ownBlock ≠ some q)) : DAt (W.setCell ⟨b, 2, none⟩ v') B b bv v' (zs ++ [y]) { S with L := S.L ++ [y.r] } := by
  have hob : W.heap[b]? = some (.cells #[.int .i64 S.room, bv, v, .int .i64 S.clock] 50 (0, 0)) := (same b h.lt (fun e => (h.vb b e).2.2 rfl)).trans h.obj
  have vne : ∀ q, q < w.heap.size → v.ownBlock ≠ some q → v'.ownBlock ≠ some q := fun q hq hne e => by
    rcases hv q e with k | k
    · exact hne k
    · omega
  have hvb : ∀ q, v'.ownBlock = some q → q ≠ b := fun q hq => by
    rcases hv q hq with k | k
    · exact (h.vb q k).2.2
    · have := h.lt; omega
  have same2 : ∀ q, q < w.heap.size → q ≠ b → v.ownBlock ≠ some q → (W.setCell ⟨b, 2, none⟩ v').heap[q]? = w.heap[q]? := fun q hq hne hn => (World.heap_setCell_off W b 2 _ q hne).trans (same q hq hn)
  refine h.step (Joins.block_setCell (i := 2) hob v') (by rw [World.size_setCell]; exact hs) same2 (hr.other fun q hq => World.heap_setCell_off W b 2 _ q (hvb q hq)) ?_ (fun q k => ?_) (fun x hx => ?_) (fun q hq e => ?_) (by rw [List.map_append, h.rs]; rfl)
  · refine Ns.other h.kn (by rw [World.size_setCell]; exact hs) fun q k hq => ?_
    have := h.apk q k
    exact same2 q hq this.2.2.1 this.2.2.2
  · have := h.apk q k
    rw [World.size_setCell]
    exact ⟨this.1, by omega, this.2.2.1, vne q this.2.1 this.2.2.2⟩
  · rcases List.mem_append.1 hx with hx | hx
    · exact Or.inl hx
    · rw [List.mem_singleton] at hx; subst hx
      right
      constructor
      · by_cases hd : x.r.d = []
        · obtain ⟨⟨a, c, e, _⟩, n2, n3, _⟩ := hy
          exact ⟨⟨a, c, e, Or.inl hd⟩, n2, n3, Nat.le_refl _⟩
        · refine Ns.other hy (by rw [World.size_setCell]; exact hs) fun q hq hl => ?_
          rcases hyq hd q hq with k | k
          · exact same2 q hl (by have := h.lo; omega) fun e => by have := (h.row.lt e).1; omega
          · exact same2 q hl k.2.1 k.2.2
      · intro hd q hq
        rcases hyq hd q hq with k | k
        · exact Or.inl k
        · exact Or.inr ⟨by rw [World.size_setCell]; omega, k.2.1, vne q k.1 k.2.2⟩
  · rcases hv q e with k | k
    · exact k
    · omega
end
/-- M: the blocks that its calls turn; F: all that are its own. -/
structure LogD (w : World) (B b : Nat) (S : OS) (M F : Nat → Prop) : Prop where
  at_ : ∃ bv v zs, DAt w B b bv v zs S ∧ (∀ q, (q = b ∨ v.ownBlock = some q) → M q) ∧ (∀ q, bv.ownBlock = some q → F q ∧ ¬ M q) ∧ ∀ x ∈ zs, x.r.d ≠ [] → ∀ q, x.dv.ownBlock = some q → B ≤ q → F q ∧ ¬ M q
  mf : ∀ q, M q → F q
  fp : ∀ q, F q → B ≤ q ∧ q < w.heap.size
  good : Good S
theorem LogD.off {w w' : World} {B b : Nat} {S : OS} {M F G : Nat → Prop} (h : LogD w B b S M F) (k : FrF G w w') (hd : ∀ q, F q → ¬ G q) (hB : ∀ q, G q → B ≤ q) : LogD w' B b S M F := by
  obtain ⟨⟨bv, v, zs, hO, h1, h2, h3⟩, mf, fp, good⟩ := h
  have kf : ∀ q, F q → w'.heap[q]? = w.heap[q]? := fun q hq => k.block q (fp q hq).2 (hd q hq)
  refine ⟨⟨bv, v, zs, hO.keep k.size (kf b (mf b (h1 b (Or.inl rfl)))) (fun g hg => kf g (mf g (h1 g (Or.inr hg)))) (fun q hq => kf q (h2 q hq).1) (fun x hx hd q hq hl => ?_), h1, h2, h3⟩, mf, fun q hq => ⟨(fp q hq).1, Nat.lt_of_lt_of_le (fp q hq).2 k.size⟩, good⟩
  by_cases c : B ≤ q
  · exact kf q (h3 x hx hd q hq c).1
  · exact k.block q hl (fun e => c (hB q e))
theorem LogD.later {w w' : World} {B b : Nat} {S : OS} {M F : Nat → Prop} (h : LogD w B b S M F) (k : Below w.heap.size w w') : LogD w' B b S M F := by
  obtain ⟨⟨bv, v, zs, hO, h1⟩, mf, fp, good⟩ := h
  exact ⟨⟨bv, v, zs, hO.later k, h1⟩, mf, fun q hq => ⟨(fp q hq).1, Nat.lt_of_lt_of_le (fp q hq).2 k.size⟩, good⟩

/-! New. -/
def DNewDone (room : Int) (base : List Int) (w : World) (e : Ending) (w' : World) : Prop := ∃ b, e = .returned (.pointer (some ⟨b, 0, none⟩)) ∧ w.heap.size ≤ b ∧ (∀ B, B ≤ w.heap.size → LogD w' B b (newS room base) (fun q => q = b) (fun q => w.heap.size ≤ q ∧ q < w'.heap.size)) ∧ Below w.heap.size w w'
set_option maxHeartbeats 1000000 in
theorem dnew_is (room : Int) (v : Value) (l : List Int) (w : World) (h : Ns w v l) : Calls Try.prog 11 #[.int .i64 room, v] w (DNewDone room l w) := by
  obtain ⟨a, c, rfl⟩ := h.slice
  have kp := rplainF_is _ l w h
  obtain ⟨z, hz⟩ : ∃ z, min (max room 0) 400 = z := ⟨_, rfl⟩
  have HZ := Lib.hid hz
  have HG := Lib.hid (newS_good room l)
  unfold newS at HG
  rw [hz] at HG
  have fin : ∀ (w2 : World) (a2 : Option Addr) (c2 : Nat), Ns w2 (.slice a2 (plainL l).length c2) (plainL l) → Below w.heap.size w w2 → (∀ q, (Value.slice a2 (plainL l).length c2).ownBlock = some q → w.heap.size ≤ q ∧ q < w2.heap.size) →
      DNewDone room l w (.returned (.pointer (some ⟨w2.heap.size, 0, none⟩))) (w2.alloc (.cells #[.int .i64 z, .slice a2 (plainL l).length c2, .slice none 0 0, .int .i64 0] 50)) := fun w2 a2 c2 hn hb hf => by
    have hs2 := hb.size
    refine ⟨w2.heap.size, rfl, hs2, fun B hB => ?_, bel_new hb _⟩
    unfold newS
    rw [HZ.out]
    refine ⟨⟨_, _, [], ⟨heap_alloc_new w2 _, by omega, ORow.nil _ _, Ns.later hn ((Below.refl _ _).alloc (Nat.le_refl _) _), fun x hx => (by cases hx), fun q hq => ?_, fun x hx => (by cases hx), rfl⟩, fun q hq => ?_, fun q hq => ?_, fun x hx => (by cases hx)⟩, fun q hq => ?_, fun q hq => ⟨by omega, hq.2⟩, HG.out⟩
    · have := hf q hq
      exact ⟨by omega, by rw [World.size_alloc]; omega, by omega, fun e => by cases e⟩
    · rcases hq with e | e
      · exact e
      · cases e
    · have := hf q hq
      exact ⟨⟨this.1, by rw [World.size_alloc]; omega⟩, by omega⟩
    · subst hq; exact ⟨hs2, by rw [World.size_alloc]; omega⟩
  have FIN := Lib.hid fin
  have hcase : (room < 0 ∧ z = 0) ∨ (¬ room < 0 ∧ 400 < room ∧ z = 400) ∨ (¬ room < 0 ∧ ¬ 400 < room ∧ z = room) := by omega
  clear h fin hz
  rcases hcase with ⟨g1, rfl⟩ | ⟨g1, g2, rfl⟩ | ⟨g1, g2, rfl⟩
  all_goals
    go_enter Try.func11, Try.ntmps11
    go_wp2_with (go_at_call 37; (with_reducible refine kp.mono ?_); rintro e w2 ⟨v2, rfl, hn2, hb2, hf2⟩; (obtain ⟨a2, c2, rfl⟩ := hn2.slice); (have HD := Lib.hid (FIN.out w2 a2 c2 hn2 hb2 hf2)); clear hn2 hb2 hf2)
    go_ret
    exact HD.out

/-! Know. -/
structure KnJ (w wr : World) (bv v : Value) (K : List Int) : Prop where
  bel : Below w.heap.size w wr
  ns : Ns wr v K
  own : ∀ q, v.ownBlock = some q → bv.ownBlock = some q ∨ (w.heap.size ≤ q ∧ q < wr.heap.size)
def KnowD (bv : Value) (K : List Int) (w : World) (e : Ending) (w' : World) : Prop := ∃ v, e = .returned v ∧ KnJ w w' bv v K
set_option maxHeartbeats 4000000 in
theorem dknowO_is {w : World} {B b : Nat} {bv v : Value} {zs : List Rd} {S : OS} (h : DAt w B b bv v zs S) (hg : Good S) : Calls Try.prog 18 #[.pointer (some ⟨b, 0, none⟩)] w (KnowD bv S.know w) := by
  obtain ⟨a0, c0, rfl⟩ := h.row.slice
  obtain ⟨ab, cb, rfl⟩ := h.kn.slice
  have c1 := h.c1
  have HO := Lib.hid h
  have HG := Lib.hid hg
  obtain ⟨n, hn⟩ : ∃ n, zs.length = n := ⟨_, rfl⟩
  have hlen := h.len
  have hl400 := hg.l400
  rw [hn] at hlen
  have h400 : n ≤ 400 := by omega
  have HN := Lib.hid hn
  have HLN := Lib.hid hlen
  have HK := Lib.hid (show S.know = knowL S.base (S.L.take n) by rw [hlen, List.take_length]; rfl)
  have H0 := Lib.hid (show KnJ w w (.slice ab S.base.length cb) (.slice ab S.base.length cb) (knowL S.base (S.L.take 0)) from ⟨Below.refl _ _, h.kn, fun q hq => Or.inl hq⟩)
  have HC2 := Lib.hid (fun (W : World) (hW : Below w.heap.size w W) => (by have := (h.later hW).c2; rw [hn] at this; exact this : W.cell? ⟨b, 2, none⟩ = some (.slice a0 n c0)))
  clear h hg hn hlen hl400
  go_enter Try.func18, Try.ntmps18
  go_wp2
  go_loopw [3, 4] (fun v i wr => ∃ k : Nat, k ≤ n ∧ i = .int .i64 (k : Int) ∧ Hid (KnJ w wr (.slice ab S.base.length cb) v (knowL S.base (S.L.take k)))) (fun _ i _ => n - (intOf i).toNat)
  case atStart => exact ⟨0, by omega, rfl, H0⟩
  case round =>
    obtain ⟨k, hk, rfl, HJ⟩ := hrel
    clear H0
    rename_i v wr
    obtain ⟨av, cv, rfl⟩ := HJ.out.ns.slice
    have c2 := HC2.out _ HJ.out.bel
    by_cases hlt : k < n
    · have hlt2 : (k : Int) < (n : Int) := by omega
      have hkz : k < zs.length := by rw [HN.out]; exact hlt
      have hkL : k < S.L.length := by rw [← HLN.out]; exact hlt
      obtain ⟨g, off, rfl, -, -, hgl, hcs⟩ := ORow.cell HO.out.row (by omega)
      have hr9 := R9.later (hcs k hkz) HJ.out.bel
      obtain ⟨z, hz⟩ : ∃ z, zs[k] = z := ⟨_, rfl⟩
      have hzr : z.r = S.L[k] := by rw [← hz]; exact HO.out.get hkz hkL
      have hok := Rec.ok_parts (HG.out.ok z.r (by rw [hzr]; exact List.getElem_mem hkL))
      have hst := know_step S.base S.L k hkL
      rw [← hzr] at hst
      rw [hz] at hr9
      obtain ⟨⟨zk, zss, zt, zv, ztier, ⟨zc, zst, zq⟩, zd⟩, za, zcc⟩ := z
      obtain ⟨x0, x1, x2, x3, x4, x5, x6, x7, x8⟩ := hr9
      dsimp only at x6 x7 hst hok
      obtain ⟨K, hK⟩ : ∃ K, knowL S.base (S.L.take k) = K := ⟨_, rfl⟩
      rw [hK] at HJ hst ⊢
      have HST := Lib.hid hst
      have hbd : Below wr.heap.size wr wr.drew := (Below.refl _ _).drew
      have kw := rwithF_is _ K zst zq wr.drew (Ns.later HJ.out.ns hbd) (by omega)
      have HBD := Lib.hid hbd
      clear hcs hz hzr hok hst hgl x0 x1 x2 x3 x4 x5 x8 hK hbd
      go_wp2_with fail
      refine still_tail 19 (by kernel_rfl) (by kernel_rfl) ?_
      simp only [List.take_succ_cons, List.take_zero, List.drop_succ_cons, List.drop_zero]
      repeat still_step
      refine wpStill_nil ?_
      go_wp2_with (go_at_call 32; (with_reducible refine kw.mono ?_); rintro e w9 ⟨v9, rfl, hn9, hb9, hf9⟩; (have HN9 := Lib.hid hn9); (have HB9 := Lib.hid hb9); (have HF9 := Lib.hid hf9); clear hn9 hb9 hf9)
      go_roundw
      case rel => exact ⟨k + 1, by omega, by go_num, Lib.hid ⟨bel_next (bel_next HJ.out.bel HBD.out) HB9.out, by rw [HST.out]; exact HN9.out, fun q hq => Or.inr ⟨by have h7 := (HF9.out q hq).1; have h8 := HJ.out.bel.size; have h9 := HBD.out.size; omega, (HF9.out q hq).2⟩⟩⟩
      case measure => simp [intOf]; omega
    · obtain rfl : k = n := by omega
      have hlt2 : ¬ (k : Int) < (k : Int) := by omega
      clear hlt
      rw [← HK.out] at HJ ⊢
      go_wp2
      go_ret
      exact ⟨_, rfl, HJ.out⟩
end Go.Proofs.Ythbajlfkgbfkgaa.Og

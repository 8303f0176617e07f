/- The document's log: origin's texts joined. -/
import Derived.Test.YthifmfgnblecbaaOgRef
import Derived.Test.YthifmfgnblecbaaSampleG
import Derived.StillTailTactics
import Derived.Test.YthifmfgnblecbaaOgOwn
import Derived.Test.YthifmfgnblecbaaOgVec
import Derived.Test.YthifmfgnblecbaaOgTrim
/- The document's log as it lies in memory. -/
set_option maxRecDepth 20000
set_option linter.unusedSimpArgs false
set_option linter.unusedVariables false
namespace Go.Proofs.Ythifmfgnblecbaa.Og
open Go.RowKit Go.Proofs.Ythifmfgnblecbaa.Vi Go.Proofs.Ythifmfgnblecbaa.Mk

theorem know_step (v : List Int) (l : List Rec) (i : Nat) (h : i < l.length) : knowL v (l.take (i + 1)) = withL (knowL v (l.take i)) l[i].st.s l[i].st.q := by
  rw [List.take_succ_eq_append_getElem h, knowL_append]; rfl
theorem still_tail {P : Program} {id : Nat} {Q : Exit → Act → World → Prop} {a : Act} {w : World} {l : List Oper} (n : Nat) (hm : P.follows .mixedOrders = true) (hB : Region.lexTailB .any l.toArray n = true)
    (h : wpStill P l.toArray w.drew (fun a' => wpList P l.toArray Q (l.drop n) a' w.drew) (l.take n) a) : (Code.region id l.toArray true).wp P Q a w := wp_region_still_tail n hm hB h

structure DAt (w : World) (B b : Nat) (bv v : Value) (zs : List Rd) (S : OS) : Prop where
  obj : w.heap[b]? = some (.cells #[.int .i64 S.room, bv, v, .int .i64 S.clock] 73 (0, 0))
  lo : B ≤ b
  row : ORow w B v zs
  kn : Ns w bv S.base
  deps : ∀ x ∈ zs, Ns w x.dv x.r.d
  apk : ∀ q, bv.ownBlock = some q → B ≤ q ∧ q < w.heap.size ∧ q ≠ b ∧ v.ownBlock ≠ some q
  apd : ∀ x ∈ zs, x.r.d ≠ [] → ∀ q, x.dv.ownBlock = some q → q < B ∨ (q < w.heap.size ∧ q ≠ b ∧ v.ownBlock ≠ some q)
  rs : zs.map Rd.r = S.L
section
variable {w W : World} {B b : Nat} {bv v : Value} {zs : List Rd} {S : OS}
theorem DAt.c0 (h : DAt w B b bv v zs S) : w.cell? ⟨b, 0, none⟩ = some (.int .i64 S.room) := by rw [Joins.cell_of_block h.obj]; rfl
theorem DAt.c1 (h : DAt w B b bv v zs S) : w.cell? ⟨b, 1, none⟩ = some bv := by rw [Joins.cell_of_block h.obj]; rfl
theorem DAt.c2 (h : DAt w B b bv v zs S) : w.cell? ⟨b, 2, none⟩ = some v := by rw [Joins.cell_of_block h.obj]; rfl
theorem DAt.c3 (h : DAt w B b bv v zs S) : w.cell? ⟨b, 3, none⟩ = some (.int .i64 S.clock) := by rw [Joins.cell_of_block h.obj]; rfl
theorem DAt.lt (h : DAt w B b bv v zs S) : b < w.heap.size := (Array.getElem?_eq_some_iff.1 h.obj).1
theorem DAt.fz (h : DAt w B b bv v zs S) (i : Nat) : w.frozen? ⟨b, i, none⟩ = false := Joins.unfrozen_of_block h.obj _
theorem DAt.len (h : DAt w B b bv v zs S) : zs.length = S.L.length := by rw [← h.rs, List.length_map]
theorem DAt.get (h : DAt w B b bv v zs S) {k : Nat} (hz : k < zs.length) (hl : k < S.L.length) : zs[k].r = S.L[k] := by
  have : (zs.map Rd.r)[k]'(by rw [List.length_map]; exact hz) = S.L[k] := by simp only [h.rs]
  rw [← this, List.getElem_map]
theorem DAt.vb (h : DAt w B b bv v zs S) : ∀ q, v.ownBlock = some q → B ≤ q ∧ q < w.heap.size ∧ q ≠ b := by
  intro q hq
  refine ⟨(h.row.lt hq).1, (h.row.lt hq).2, ?_⟩
  obtain ⟨-, cur, e⟩ := h.row.typed hq
  rintro rfl
  rw [h.obj] at e
  injection e with e
  injection e with _ e _
  exact absurd e (by decide)
/-- What a store into the log's own blocks leaves. -/
theorem DAt.step (h : DAt w B b bv v zs S) {bv' v' : Value} {zs' : List Rd} {S' : OS} (ho : W.heap[b]? = some (.cells #[.int .i64 S'.room, bv', v', .int .i64 S'.clock] 73 (0, 0))) (hs : w.heap.size ≤ W.heap.size)
    (same : ∀ q, q < w.heap.size → q ≠ b → v.ownBlock ≠ some q → W.heap[q]? = w.heap[q]?) (hrow : ORow W B v' zs') (hk : Ns W bv' S'.base) (hkq : ∀ q, bv'.ownBlock = some q → B ≤ q ∧ q < W.heap.size ∧ q ≠ b ∧ v'.ownBlock ≠ some q)
    (hz : ∀ x ∈ zs', x ∈ zs ∨ (Ns W x.dv x.r.d ∧ (x.r.d ≠ [] → ∀ q, x.dv.ownBlock = some q → q < B ∨ (q < W.heap.size ∧ q ≠ b ∧ v'.ownBlock ≠ some q)))) (hv : ∀ q, q < w.heap.size → v'.ownBlock = some q → v.ownBlock = some q) (hrs : zs'.map Rd.r = S'.L) : DAt W B b bv' v' zs' S' := by
  refine ⟨ho, h.lo, hrow, hk, fun x hx => ?_, hkq, fun x hx hd q hq => ?_, hrs⟩
  · rcases hz x hx with hx | hx
    · by_cases hd : x.r.d = []
      · obtain ⟨⟨a, c, e, _⟩, n2, n3, _⟩ := h.deps x hx
        exact ⟨⟨a, c, e, Or.inl hd⟩, n2, n3, Nat.le_refl _⟩
      · refine Ns.other (h.deps x hx) hs fun q hq hl => ?_
        rcases h.apd x hx hd q hq with k | k
        · exact same q hl (by have := h.lo; omega) fun e => by have := (h.row.lt e).1; omega
        · exact same q hl k.2.1 k.2.2
    · exact hx.1
  · rcases hz x hx with hx | hx
    · rcases h.apd x hx hd q hq with k | k
      · exact Or.inl k
      · exact Or.inr ⟨by omega, k.2.1, fun e => k.2.2 (hv q k.1 e)⟩
    · exact hx.2 hd q hq
theorem DAt.keep (h : DAt w B b bv v zs S) (hs : w.heap.size ≤ W.heap.size) (kb : W.heap[b]? = w.heap[b]?) (kr : ∀ g, v.ownBlock = some g → W.heap[g]? = w.heap[g]?)
    (kk : ∀ q, bv.ownBlock = some q → W.heap[q]? = w.heap[q]?) (kd : ∀ x ∈ zs, x.r.d ≠ [] → ∀ q, x.dv.ownBlock = some q → q < w.heap.size → W.heap[q]? = w.heap[q]?) : DAt W B b bv v zs S := by
  refine ⟨kb.trans h.obj, h.lo, h.row.other kr, Ns.other h.kn hs (fun q hq _ => kk q hq), fun x hx => ?_, fun q hq => by have := h.apk q hq; exact ⟨this.1, by omega, this.2.2⟩, fun x hx hd q hq => (h.apd x hx hd q hq).imp id fun k => ⟨by omega, k.2⟩, h.rs⟩
  by_cases hd : x.r.d = []
  · obtain ⟨⟨a, c, e, _⟩, n2, n3, _⟩ := h.deps x hx
    exact ⟨⟨a, c, e, Or.inl hd⟩, n2, n3, Nat.le_refl _⟩
  · exact Ns.other (h.deps x hx) hs (kd x hx hd)
theorem DAt.later (h : DAt w B b bv v zs S) (k : Below w.heap.size w W) : DAt W B b bv v zs S :=
  h.keep k.size (k.block _ h.lt) (fun g hg => k.block g (h.row.lt hg).2) (fun q hq => k.block q (h.apk q hq).2.1) fun x _ _ q _ hl => k.block q hl
theorem DAt.set1 (h : DAt w B b bv v zs S) (u : Value) {K : List Int} (hu : Ns w u K) (hq : ∀ q, u.ownBlock = some q → B ≤ q ∧ q < w.heap.size ∧ q ≠ b ∧ v.ownBlock ≠ some q) : DAt (w.setCell ⟨b, 1, none⟩ u) B b u v zs { S with base := K } :=
  h.step (Joins.block_setCell (i := 1) h.obj u) (by simp) (fun q _ hne _ => World.heap_setCell_off w b 1 u q hne) (h.row.other fun q hq => World.heap_setCell_off w b 1 u q (h.vb q hq).2.2)
    (Ns.other hu (by simp) fun q k _ => World.heap_setCell_off w b 1 u q (hq q k).2.2.1) (fun q k => by rw [World.size_setCell]; exact hq q k) (fun x hx => Or.inl hx) (fun q _ e => e) h.rs
theorem DAt.set3 (h : DAt w B b bv v zs S) (c : Int) : DAt (w.setCell ⟨b, 3, none⟩ (.int .i64 c)) B b bv v zs { S with clock := c } :=
  h.step (Joins.block_setCell (i := 3) h.obj (.int .i64 c)) (by simp) (fun q _ hne _ => World.heap_setCell_off w b 3 _ q hne) (h.row.other fun q hq => World.heap_setCell_off w b 3 _ q (h.vb q hq).2.2)
    (Ns.other h.kn (by simp) fun q k _ => World.heap_setCell_off w b 3 _ q (h.apk q k).2.2.1) (fun q k => by rw [World.size_setCell]; exact h.apk q k) (fun x hx => Or.inl hx) (fun q _ e => e) h.rs
/-- The row cut. -/
theorem DAt.set2 (h : DAt w B b bv v zs S) (v' : Value) (k : Nat) (hr : ORow w B v' (zs.drop k)) (hv : ∀ q, v'.ownBlock = some q → v.ownBlock = some q) : DAt (w.setCell ⟨b, 2, none⟩ v') B b bv v' (zs.drop k) { S with L := S.L.drop k } :=
  h.step (Joins.block_setCell (i := 2) h.obj v') (by simp) (fun q _ hne _ => World.heap_setCell_off w b 2 _ q hne) (hr.other fun q hq => World.heap_setCell_off w b 2 _ q (h.vb q (hv q hq)).2.2)
    (Ns.other h.kn (by simp) fun q k _ => World.heap_setCell_off w b 2 _ q (h.apk q k).2.2.1) (fun q k => by rw [World.size_setCell]; have := h.apk q k; exact ⟨this.1, this.2.1, this.2.2.1, fun e => this.2.2.2 (hv q e)⟩) (fun x hx => Or.inl (List.mem_of_mem_drop hx)) (fun q _ e => hv q e) (by rw [List.map_drop, h.rs])
/-- A record appended: W behind the append, its slice stored. -/
theorem DAt.app2 (h : DAt w B b bv v zs S) {v' : Value} {y : Rd} (hr : ORow W B v' (zs ++ [y])) (hs : w.heap.size ≤ W.heap.size) (same : ∀ q, q < w.heap.size → v.ownBlock ≠ some q → W.heap[q]? = w.heap[q]?) (hv : ∀ q, v'.ownBlock = some q → v.ownBlock = some q ∨ w.heap.size ≤ q)
    (hy : Ns w y.dv y.r.d) (hyq : y.r.d ≠ [] → ∀ q, y.dv.ownBlock = some q → q < B ∨ (q < w.heap.size ∧ q ≠ b ∧ v.ownBlock ≠ some q)) : DAt (W.setCell ⟨b, 2, none⟩ v') B b bv v' (zs ++ [y]) { S with L := S.L ++ [y.r] } := by
  have hob : W.heap[b]? = some (.cells #[.int .i64 S.room, bv, v, .int .i64 S.clock] 73 (0, 0)) := (same b h.lt (fun e => (h.vb b e).2.2 rfl)).trans h.obj
  have vne : ∀ q, q < w.heap.size → v.ownBlock ≠ some q → v'.ownBlock ≠ some q := fun q hq hne e => by
    rcases hv q e with k | k
    · exact hne k
    · omega
  have hvb : ∀ q, v'.ownBlock = some q → q ≠ b := fun q hq => by
    rcases hv q hq with k | k
    · exact (h.vb q k).2.2
    · have := h.lt; omega
  have same2 : ∀ q, q < w.heap.size → q ≠ b → v.ownBlock ≠ some q → (W.setCell ⟨b, 2, none⟩ v').heap[q]? = w.heap[q]? := fun q hq hne hn => (World.heap_setCell_off W b 2 _ q hne).trans (same q hq hn)
  refine h.step (Joins.block_setCell (i := 2) hob v') (by rw [World.size_setCell]; exact hs) same2 (hr.other fun q hq => World.heap_setCell_off W b 2 _ q (hvb q hq)) ?_ (fun q k => ?_) (fun x hx => ?_) (fun q hq e => ?_) (by rw [List.map_append, h.rs]; rfl)
  · refine Ns.other h.kn (by rw [World.size_setCell]; exact hs) fun q k hq => ?_
    have := h.apk q k
    exact same2 q hq this.2.2.1 this.2.2.2
  · have := h.apk q k
    rw [World.size_setCell]
    exact ⟨this.1, by omega, this.2.2.1, vne q this.2.1 this.2.2.2⟩
  · rcases List.mem_append.1 hx with hx | hx
    · exact Or.inl hx
    · rw [List.mem_singleton] at hx; subst hx
      right
      constructor
      · by_cases hd : x.r.d = []
        · obtain ⟨⟨a, c, e, _⟩, n2, n3, _⟩ := hy
          exact ⟨⟨a, c, e, Or.inl hd⟩, n2, n3, Nat.le_refl _⟩
        · refine Ns.other hy (by rw [World.size_setCell]; exact hs) fun q hq hl => ?_
          rcases hyq hd q hq with k | k
          · exact same2 q hl (by have := h.lo; omega) fun e => by have := (h.row.lt e).1; omega
          · exact same2 q hl k.2.1 k.2.2
      · intro hd q hq
        rcases hyq hd q hq with k | k
        · exact Or.inl k
        · exact Or.inr ⟨by rw [World.size_setCell]; omega, k.2.1, vne q k.1 k.2.2⟩
  · rcases hv q e with k | k
    · exact k
    · omega
end
/-- M: the blocks that its calls turn; F: all that are its own. -/
structure LogD (w : World) (B b : Nat) (S : OS) (M F : Nat → Prop) : Prop where
  at_ : ∃ bv v zs, DAt w B b bv v zs S ∧ (∀ q, (q = b ∨ v.ownBlock = some q) → M q) ∧ (∀ q, bv.ownBlock = some q → F q ∧ ¬ M q) ∧ ∀ x ∈ zs, x.r.d ≠ [] → ∀ q, x.dv.ownBlock = some q → B ≤ q → F q ∧ ¬ M q
  mf : ∀ q, M q → F q
  fp : ∀ q, F q → B ≤ q ∧ q < w.heap.size
  good : Good S
theorem LogD.off {w w' : World} {B b : Nat} {S : OS} {M F G : Nat → Prop} (h : LogD w B b S M F) (k : FrF G w w') (hd : ∀ q, F q → ¬ G q) (hB : ∀ q, G q → B ≤ q) : LogD w' B b S M F := by
  obtain ⟨⟨bv, v, zs, hO, h1, h2, h3⟩, mf, fp, good⟩ := h
  have kf : ∀ q, F q → w'.heap[q]? = w.heap[q]? := fun q hq => k.block q (fp q hq).2 (hd q hq)
  refine ⟨⟨bv, v, zs, hO.keep k.size (kf b (mf b (h1 b (Or.inl rfl)))) (fun g hg => kf g (mf g (h1 g (Or.inr hg)))) (fun q hq => kf q (h2 q hq).1) (fun x hx hd q hq hl => ?_), h1, h2, h3⟩, mf, fun q hq => ⟨(fp q hq).1, Nat.lt_of_lt_of_le (fp q hq).2 k.size⟩, good⟩
  by_cases c : B ≤ q
  · exact kf q (h3 x hx hd q hq c).1
  · exact k.block q hl (fun e => c (hB q e))
theorem LogD.later {w w' : World} {B b : Nat} {S : OS} {M F : Nat → Prop} (h : LogD w B b S M F) (k : Below w.heap.size w w') : LogD w' B b S M F := by
  obtain ⟨⟨bv, v, zs, hO, h1⟩, mf, fp, good⟩ := h
  exact ⟨⟨bv, v, zs, hO.later k, h1⟩, mf, fun q hq => ⟨(fp q hq).1, Nat.lt_of_lt_of_le (fp q hq).2 k.size⟩, good⟩

/-! New. -/
def DNewDone (room : Int) (base : List Int) (w : World) (e : Ending) (w' : World) : Prop := ∃ b, e = .returned (.pointer (some ⟨b, 0, none⟩)) ∧ w.heap.size ≤ b ∧ (∀ B, B ≤ w.heap.size → LogD w' B b (newS room base) (fun q => q = b) (fun q => w.heap.size ≤ q ∧ q < w'.heap.size)) ∧ Below w.heap.size w w'
set_option maxHeartbeats 1000000 in
theorem dnew_is (room : Int) (v : Value) (l : List Int) (w : World) (h : Ns w v l) : Calls Try.prog 43 #[.int .i64 room, v] w (DNewDone room l w) := by
  obtain ⟨a, c, rfl⟩ := h.slice
  have kp := rplainF_is _ l w h
  obtain ⟨z, hz⟩ : ∃ z, min (max room 0) 400 = z := ⟨_, rfl⟩
  have HZ := Lib.hid hz
  have HG := Lib.hid (newS_good room l)
  unfold newS at HG
  rw [hz] at HG
  have fin : ∀ (w2 : World) (a2 : Option Addr) (c2 : Nat), Ns w2 (.slice a2 (plainL l).length c2) (plainL l) → Below w.heap.size w w2 → (∀ q, (Value.slice a2 (plainL l).length c2).ownBlock = some q → w.heap.size ≤ q ∧ q < w2.heap.size) →
      DNewDone room l w (.returned (.pointer (some ⟨w2.heap.size, 0, none⟩))) (w2.alloc (.cells #[.int .i64 z, .slice a2 (plainL l).length c2, .slice none 0 0, .int .i64 0] 73)) := fun w2 a2 c2 hn hb hf => by
    have hs2 := hb.size
    refine ⟨w2.heap.size, rfl, hs2, fun B hB => ?_, bel_new hb _⟩
    unfold newS
    rw [HZ.out]
    refine ⟨⟨_, _, [], ⟨heap_alloc_new w2 _, by omega, ORow.nil _ _, Ns.later hn ((Below.refl _ _).alloc (Nat.le_refl _) _), fun x hx => (by cases hx), fun q hq => ?_, fun x hx => (by cases hx), rfl⟩, fun q hq => ?_, fun q hq => ?_, fun x hx => (by cases hx)⟩, fun q hq => ?_, fun q hq => ⟨by omega, hq.2⟩, HG.out⟩
    · have := hf q hq
      exact ⟨by omega, by rw [World.size_alloc]; omega, by omega, fun e => by cases e⟩
    · rcases hq with e | e
      · exact e
      · cases e
    · have := hf q hq
      exact ⟨⟨this.1, by rw [World.size_alloc]; omega⟩, by omega⟩
    · subst hq; exact ⟨hs2, by rw [World.size_alloc]; omega⟩
  have FIN := Lib.hid fin
  have hcase : (room < 0 ∧ z = 0) ∨ (¬ room < 0 ∧ 400 < room ∧ z = 400) ∨ (¬ room < 0 ∧ ¬ 400 < room ∧ z = room) := by omega
  clear h fin hz
  rcases hcase with ⟨g1, rfl⟩ | ⟨g1, g2, rfl⟩ | ⟨g1, g2, rfl⟩
  all_goals
    go_enter Try.func43, Try.ntmps43
    go_wp2_with (go_at_call 31; (with_reducible refine kp.mono ?_); rintro e w2 ⟨v2, rfl, hn2, hb2, hf2⟩; (obtain ⟨a2, c2, rfl⟩ := hn2.slice); (have HD := Lib.hid (FIN.out w2 a2 c2 hn2 hb2 hf2)); clear hn2 hb2 hf2)
    go_ret
    exact HD.out

/-! Know. -/
structure KnJ (w wr : World) (bv v : Value) (K : List Int) : Prop where
  bel : Below w.heap.size w wr
  ns : Ns wr v K
  own : ∀ q, v.ownBlock = some q → bv.ownBlock = some q ∨ (w.heap.size ≤ q ∧ q < wr.heap.size)
def KnowD (bv : Value) (K : List Int) (w : World) (e : Ending) (w' : World) : Prop := ∃ v, e = .returned v ∧ KnJ w w' bv v K
set_option maxHeartbeats 4000000 in
theorem dknowO_is {w : World} {B b : Nat} {bv v : Value} {zs : List Rd} {S : OS} (h : DAt w B b bv v zs S) (hg : Good S) : Calls Try.prog 44 #[.pointer (some ⟨b, 0, none⟩)] w (KnowD bv S.know w) := by
  obtain ⟨a0, c0, rfl⟩ := h.row.slice
  obtain ⟨ab, cb, rfl⟩ := h.kn.slice
  have c1 := h.c1
  have HO := Lib.hid h
  have HG := Lib.hid hg
  obtain ⟨n, hn⟩ : ∃ n, zs.length = n := ⟨_, rfl⟩
  have hlen := h.len
  have hl400 := hg.l400
  rw [hn] at hlen
  have h400 : n ≤ 400 := by omega
  have HN := Lib.hid hn
  have HLN := Lib.hid hlen
  have HK := Lib.hid (show S.know = knowL S.base (S.L.take n) by rw [hlen, List.take_length]; rfl)
  have H0 := Lib.hid (show KnJ w w (.slice ab S.base.length cb) (.slice ab S.base.length cb) (knowL S.base (S.L.take 0)) from ⟨Below.refl _ _, h.kn, fun q hq => Or.inl hq⟩)
  have HC2 := Lib.hid (fun (W : World) (hW : Below w.heap.size w W) => (by have := (h.later hW).c2; rw [hn] at this; exact this : W.cell? ⟨b, 2, none⟩ = some (.slice a0 n c0)))
  clear h hg hn hlen hl400
  go_enter Try.func44, Try.ntmps44
  go_wp2
  go_loopw [3, 4] (fun v i wr => ∃ k : Nat, k ≤ n ∧ i = .int .i64 (k : Int) ∧ Hid (KnJ w wr (.slice ab S.base.length cb) v (knowL S.base (S.L.take k)))) (fun _ i _ => n - (intOf i).toNat)
  case atStart => exact ⟨0, by omega, rfl, H0⟩
  case round =>
    obtain ⟨k, hk, rfl, HJ⟩ := hrel
    clear H0
    rename_i v wr
    obtain ⟨av, cv, rfl⟩ := HJ.out.ns.slice
    have c2 := HC2.out _ HJ.out.bel
    by_cases hlt : k < n
    · have hlt2 : (k : Int) < (n : Int) := by omega
      have hkz : k < zs.length := by rw [HN.out]; exact hlt
      have hkL : k < S.L.length := by rw [← HLN.out]; exact hlt
      obtain ⟨g, off, rfl, -, -, hgl, hcs⟩ := ORow.cell HO.out.row (by omega)
      have hr9 := R9.later (hcs k hkz) HJ.out.bel
      obtain ⟨z, hz⟩ : ∃ z, zs[k] = z := ⟨_, rfl⟩
      have hzr : z.r = S.L[k] := by rw [← hz]; exact HO.out.get hkz hkL
      have hok := Rec.ok_parts (HG.out.ok z.r (by rw [hzr]; exact List.getElem_mem hkL))
      have hst := know_step S.base S.L k hkL
      rw [← hzr] at hst
      rw [hz] at hr9
      obtain ⟨⟨zk, zss, zt, zv, ztier, ⟨zc, zst, zq⟩, zd⟩, za, zcc⟩ := z
      obtain ⟨x0, x1, x2, x3, x4, x5, x6, x7, x8⟩ := hr9
      dsimp only at x6 x7 hst hok
      obtain ⟨K, hK⟩ : ∃ K, knowL S.base (S.L.take k) = K := ⟨_, rfl⟩
      rw [hK] at HJ hst ⊢
      have HST := Lib.hid hst
      have hbd : Below wr.heap.size wr wr.drew := (Below.refl _ _).drew
      have kw := rwithF_is _ K zst zq wr.drew (Ns.later HJ.out.ns hbd) (by omega)
      have HBD := Lib.hid hbd
      clear hcs hz hzr hok hst hgl x0 x1 x2 x3 x4 x5 x8 hK hbd
      go_wp2_with fail
      refine still_tail 19 (by kernel_rfl) (by kernel_rfl) ?_
      simp only [List.take_succ_cons, List.take_zero, List.drop_succ_cons, List.drop_zero]
      repeat still_step
      refine wpStill_nil ?_
      go_wp2_with (go_at_call 28; (with_reducible refine kw.mono ?_); rintro e w9 ⟨v9, rfl, hn9, hb9, hf9⟩; (have HN9 := Lib.hid hn9); (have HB9 := Lib.hid hb9); (have HF9 := Lib.hid hf9); clear hn9 hb9 hf9)
      go_roundw
      case rel => exact ⟨k + 1, by omega, by go_num, Lib.hid ⟨bel_next (bel_next HJ.out.bel HBD.out) HB9.out, by rw [HST.out]; exact HN9.out, fun q hq => Or.inr ⟨by have h7 := (HF9.out q hq).1; have h8 := HJ.out.bel.size; have h9 := HBD.out.size; omega, (HF9.out q hq).2⟩⟩⟩
      case measure => simp [intOf]; omega
    · obtain rfl : k = n := by omega
      have hlt2 : ¬ (k : Int) < (k : Int) := by omega
      clear hlt
      rw [← HK.out] at HJ ⊢
      go_wp2
      go_ret
      exact ⟨_, rfl, HJ.out⟩
end Go.Proofs.Ythifmfgnblecbaa.Og

/- The document's Trim. -/
set_option maxRecDepth 20000
set_option linter.unusedSimpArgs false
set_option linter.unusedVariables false
namespace Go.Proofs.Ythifmfgnblecbaa.Og
open Go.RowKit Go.Proofs.Ythifmfgnblecbaa.Vi Go.Proofs.Ythifmfgnblecbaa.Mk

theorem DAt.cutv {w : World} {B b n c0 : Nat} {a0 : Option Addr} {bv : Value} {zs : List Rd} {S : OS} (h : DAt w B b bv (.slice a0 zs.length c0) zs S) (hn : zs.length = n) {k : Nat} (hk : k ≤ n) (h4 : n ≤ 400) :
    ∃ v', (∀ w, (Instr.slice 43 (.slice a0 n c0) (some (.int .i64 (k : Int))) none none).run Try.prog w = .ok v' w) ∧ (∀ w, (Instr.sliceAt 43 (.slice a0 n c0) (some (.int .i64 (k : Int))) none none).run Try.prog w = .ok v' w) ∧ ORow w B v' (zs.drop k) ∧ ∀ q, v'.ownBlock = some q → (Value.slice a0 zs.length c0).ownBlock = some q := by
  have hs : ∀ w, (Instr.slice 43 (.slice a0 n c0) (some (.int .i64 (k : Int))) none none).run Try.prog w = .ok (sliced a0 k n c0 9) w := fun w => by
    rw [run_slice_l (P := Try.prog) w 43 _ n c0 elemR .i64 (k : Int) (by omega) (by omega), sizeR, Int.toNat_natCast]
    rfl
  have hs2 : ∀ w, (Instr.sliceAt 43 (.slice a0 n c0) (some (.int .i64 (k : Int))) none none).run Try.prog w = .ok (sliced a0 k n c0 9) w := fun w => by rw [run_sliceAt_slice (P := Try.prog) w 43 _ _ _ _ elemR, hs w]
  refine ⟨_, hs, hs2, ?_⟩
  rcases h.row with ⟨e, e2⟩ | ⟨g, off, cap, cur, e, hB, hh, hl, -⟩
  · injection e with e1 e3 e4
    subst e1 e4 e2
    subst hn
    obtain ⟨h1, h2⟩ := ORow.cut_nil (w := w) (B := B) (zs := []) (ORow.nil w B) (k := k) (m := 0) (by simpa using hk) rfl
    simp only [List.length_nil] at hk ⊢
    rw [h1]
    exact ⟨h2, fun q hq => hq⟩
  · injection e with e1 _ e4
    subst e1 e4
    have hr := h.row
    rw [hn] at hr
    obtain ⟨o', h1, h2⟩ := hr.cut (k := k) (m := c0) hk (by omega) (Nat.le_refl _)
    rw [h1]
    exact ⟨h2, fun q hq => hq⟩
/-- Within the loop. -/
structure DtJ (w wr : World) (B b : Nat) (bv0 v : Value) (zs : List Rd) (S : OS) (V : List Int) (k : Nat) (bv' : Value) (K : List Int) : Prop where
  at_ : DAt wr B b bv' v zs { S with base := K }
  own : ∀ q, bv'.ownBlock = some q → bv0.ownBlock = some q ∨ (w.heap.size ≤ q ∧ q < wr.heap.size)
  fr : FrF (fun q => q = b) w wr
  no : ∀ j (hj : j < zs.length), j < k → beyB V zs[j].r = false
  lt : b < w.heap.size
section
variable {w wr W : World} {B b k : Nat} {bv0 v bv' : Value} {zs : List Rd} {S : OS} {V K : List Int}
theorem DtJ.later (h : DtJ w wr B b bv0 v zs S V k bv' K) (hb : Below wr.heap.size wr W) : DtJ w W B b bv0 v zs S V k bv' K :=
  ⟨h.at_.later hb, fun q hq => (h.own q hq).imp id fun e => ⟨e.1, Nat.lt_of_lt_of_le e.2 hb.size⟩, FrF.next h.fr (FrF.of hb) (fun q _ e => e), h.no, h.lt⟩
theorem DtJ.more (h : DtJ w wr B b bv0 v zs S V k bv' K) {v9 : Value} {K' : List Int} (hn : Ns wr v9 K') (hq : ∀ q, v9.ownBlock = some q → w.heap.size ≤ q ∧ q < wr.heap.size) {k' : Nat} (hno : Hid (∀ (hno : ∀ j (hj : j < zs.length), j < k → beyB V zs[j].r = false), ∀ j (hj : j < zs.length), j < k' → beyB V zs[j].r = false)) (hvw : ∀ q, v.ownBlock = some q → q < w.heap.size) :
    DtJ w (wr.setCell ⟨b, 1, none⟩ v9) B b bv0 v zs S V k' v9 K' := by
  have hlo := h.at_.lo
  have hlt := h.lt
  refine ⟨h.at_.set1 v9 hn fun q k => ?_, fun q k => Or.inr (by rw [World.size_setCell]; exact hq q k), ?_, hno.out h.no, h.lt⟩
  · have h1 := hq q k
    exact ⟨by omega, h1.2, by omega, fun e => by have := hvw q e; omega⟩
  · exact ⟨h.fr.os, h.fr.tape, h.fr.output, by rw [World.size_setCell]; exact h.fr.size, fun q hq hne => (World.heap_setCell_off wr b 1 v9 q hne).trans (h.fr.block q hq hne)⟩
/-- The log's parts, with its blocks. -/
structure DPart (w : World) (B b : Nat) (bv v : Value) (zs : List Rd) (S : OS) (M F : Nat → Prop) : Prop where
  at_ : DAt w B b bv v zs S
  m1 : ∀ q, (q = b ∨ v.ownBlock = some q) → M q
  k1 : ∀ q, bv.ownBlock = some q → F q ∧ ¬ M q
  d1 : ∀ x ∈ zs, x.r.d ≠ [] → ∀ q, x.dv.ownBlock = some q → B ≤ q → F q ∧ ¬ M q
  mf : ∀ q, M q → F q
  fp : ∀ q, F q → B ≤ q ∧ q < w.heap.size
  good : Good S
theorem LogD.part {M F : Nat → Prop} (h : LogD w B b S M F) : ∃ bv v zs, DPart w B b bv v zs S M F := by
  obtain ⟨⟨bv, v, zs, hO, h1, h2, h3⟩, mf, fp, good⟩ := h
  exact ⟨bv, v, zs, hO, h1, h2, h3, mf, fp, good⟩
def DTrimDone (w : World) (B b : Nat) (S : OS) (M F : Nat → Prop) (V : List Int) (e : Ending) (w' : World) : Prop := e = .returned (.int .i64 ((trimN V S.L : Nat) : Int)) ∧ LogD w' B b (trimS S V) M (grow F w w') ∧ FrF M w w'
theorem DtJ.fin {M F : Nat → Prop} (h : DtJ w W B b bv0 v zs S V k bv' K) (hp : DPart w B b bv0 v zs S M F) (hk : K = knowL S.base (S.L.take k) ∧ trimN V S.L = k) (vc : Value) (hcut : ORow W B vc (zs.drop k)) (hcq : ∀ q, vc.ownBlock = some q → v.ownBlock = some q) :
    LogD (W.setCell ⟨b, 2, none⟩ vc) B b (trimS S V) M (grow F w (W.setCell ⟨b, 2, none⟩ vc)) ∧ FrF M w (W.setCell ⟨b, 2, none⟩ vc) := by
  obtain ⟨rfl, rfl⟩ := hk
  have hsz : (W.setCell ⟨b, 2, none⟩ vc).heap.size = W.heap.size := by simp
  have hfs := h.fr.size
  refine ⟨⟨⟨bv', vc, _, h.at_.set2 vc _ hcut hcq, fun q hq => ?_, fun q hq => ?_, fun x hx hd q hq hB => ?_⟩, fun q hq => Or.inl (hp.mf q hq), fun q hq => ?_, hp.good.trim V⟩, ?_⟩
  · rcases hq with hq | hq
    · exact hp.m1 q (Or.inl hq)
    · exact hp.m1 q (Or.inr (hcq q hq))
  · rcases h.own q hq with e | e
    · exact ⟨Or.inl (hp.k1 q e).1, (hp.k1 q e).2⟩
    · exact ⟨Or.inr ⟨e.1, by rw [hsz]; exact e.2⟩, fun hm => by have := (hp.fp q (hp.mf q hm)).2; omega⟩
  · have := hp.d1 x (List.mem_of_mem_drop hx) hd q hq hB
    exact ⟨Or.inl this.1, this.2⟩
  · rcases hq with hq | hq
    · have := hp.fp q hq; exact ⟨this.1, by rw [hsz]; omega⟩
    · have h1 := hp.at_.lo
      have h2 := h.lt
      exact ⟨by omega, hq.2⟩
  · exact ⟨h.fr.os, h.fr.tape, h.fr.output, by rw [hsz]; exact hfs, fun q hq hne => (World.heap_setCell_off W b 2 vc q (fun e => hne (hp.m1 q (Or.inl e)))).trans (h.fr.block q hq (fun e => hne (hp.m1 q (Or.inl e))))⟩
end
theorem Ns.frame {w w' : World} {v : Value} {l : List Int} {G : Nat → Prop} (h : Ns w v l) (k : FrF G w w') (hq : l ≠ [] → ∀ q, v.ownBlock = some q → ¬ G q) : Ns w' v l := by
  by_cases hd : l = []
  · obtain ⟨⟨a, c, e, _⟩, n2, n3, _⟩ := h
    exact ⟨⟨a, c, e, Or.inl hd⟩, n2, n3, Nat.le_refl _⟩
  · exact Ns.other h k.size fun q hqq hl => k.block q hl (hq hd q hqq)
end Go.Proofs.Ythifmfgnblecbaa.Og

/- The document's Get. -/
set_option maxRecDepth 20000
set_option linter.unusedSimpArgs false
set_option linter.unusedVariables false
namespace Go.Proofs.Ythifmfgnblecbaa.Og
open Go.RowKit Go.Proofs.Ythifmfgnblecbaa.Vi Go.Proofs.Ythifmfgnblecbaa.Mk

theorem Ns.own_lt {w : World} {v : Value} {l : List Int} (h : Ns w v l) (hd : l ≠ []) : ∀ q, v.ownBlock = some q → q < w.heap.size := by
  obtain ⟨⟨a, c, e, h2⟩, _⟩ := h
  rcases h2 with h2 | ⟨b, off, e2, hb, _⟩
  · exact absurd h2 hd
  · intro q hq
    rw [e, e2] at hq
    injection hq with hq
    rw [← hq]; exact hb
def DGetDone (l : List Rec) (s q : Int) (w : World) (e : Ending) (w' : World) : Prop := ∃ x : Rd, e = .returned (.tuple #[recV x.r x.dv, .bool (getL l s q).isSome]) ∧ x.r = (getL l s q).getD Rec.zero ∧ Ns w' x.dv x.r.d ∧ Below w.heap.size w w'
end Go.Proofs.Ythifmfgnblecbaa.Og

/- The document's Add. -/
set_option maxRecDepth 20000
set_option linter.unusedSimpArgs false
set_option linter.unusedVariables false
namespace Go.Proofs.Ythifmfgnblecbaa.Og
open Go.RowKit Go.Proofs.Ythifmfgnblecbaa.Vi Go.Proofs.Ythifmfgnblecbaa.Mk

def ownF (F : Nat → Prop) (B : Nat) (x : Rd) (w w' : World) (q : Nat) : Prop := grow F w w' q ∨ (x.r.d ≠ [] ∧ x.dv.ownBlock = some q ∧ B ≤ q)
def DAddDone (w : World) (B b : Nat) (S : OS) (M F : Nat → Prop) (x : Rd) (e : Ending) (w' : World) : Prop := e = .returned (.int .i64 (addE S x.r)) ∧ LogD w' B b (addS S x.r) (grow M w w') (ownF F B x w w') ∧ FrF M w w'
theorem LogD.kept {w w' : World} {B b : Nat} {S : OS} {M F : Nat → Prop} (h : LogD w B b S M F) (x : Rd) (hx : Ns w x.dv x.r.d) (k : Below w.heap.size w w') : LogD w' B b S (grow M w w') (ownF F B x w w') := by
  obtain ⟨⟨bv, v, zs, hO, h1, h2, h3⟩, mf, fp, good⟩ := h
  have new : ∀ q, (F q ∧ ¬ M q) → (ownF F B x w w' q ∧ ¬ grow M w w' q) := fun q hq => ⟨Or.inl (Or.inl hq.1), fun e => e.elim hq.2 (fun e => by have := (fp q hq.1).2; omega)⟩
  have hs := k.size
  refine ⟨⟨bv, v, zs, hO.later k, fun q hq => Or.inl (h1 q hq), fun q hq => new q (h2 q hq), fun x hx hd q hq hB => new q (h3 x hx hd q hq hB)⟩, fun q hq => Or.inl (hq.imp (mf q) id), fun q hq => ?_, good⟩
  rcases hq with (hq | hq) | hq
  · have := fp q hq; exact ⟨this.1, by omega⟩
  · have h1 := hO.lo
    have h2 := hO.lt
    exact ⟨by omega, hq.2⟩
  · exact ⟨hq.2.2, by have := Ns.own_lt hx hq.1 q hq.2.1; omega⟩
theorem DPart.added0 {w W : World} {B b : Nat} {bv v v' : Value} {zs : List Rd} {S S' : OS} {M F : Nat → Prop} {x : Rd} (hp : DPart w B b bv v zs S M F) (_ : DAt w B b bv v zs S) (hf : FrF (fun q => q = b ∨ v.ownBlock = some q) w W) (hD : DAt W B b bv v' (zs ++ [x]) S') (hlt : b < w.heap.size) (hS : addS S x.r = S')
    (hx : Ns w x.dv x.r.d ∧ (x.r.d ≠ [] → ∀ q, x.dv.ownBlock = some q → q < B ∨ ¬ M q)) (hv : ∀ q, v'.ownBlock = some q → v.ownBlock = some q ∨ w.heap.size ≤ q) : LogD W B b (addS S x.r) (grow M w W) (ownF F B x w W) ∧ FrF M w W := by
  have new : ∀ q, (F q ∧ ¬ M q) → (ownF F B x w W q ∧ ¬ grow M w W q) := fun q hq => ⟨Or.inl (Or.inl hq.1), fun e => e.elim hq.2 (fun e => by have := (hp.fp q hq.1).2; omega)⟩
  have hs := hf.size
  rw [hS]
  refine ⟨⟨⟨bv, v', _, hD, fun q hq => ?_, fun q hq => new q (hp.k1 q hq), fun y hy hd q hq hB => ?_⟩, fun q hq => Or.inl (hq.imp (hp.mf q) id), fun q hq => ?_, by rw [← hS]; exact hp.good.add _⟩, hf.mono fun q hq => hp.m1 q hq⟩
  · rcases hq with hq | hq
    · exact Or.inl (hp.m1 q (Or.inl hq))
    · rcases hv q hq with k | k
      · exact Or.inl (hp.m1 q (Or.inr k))
      · exact Or.inr ⟨k, (hD.vb q hq).2.1⟩
  · rcases List.mem_append.1 hy with hy | hy
    · exact new q (hp.d1 y hy hd q hq hB)
    · rw [List.mem_singleton] at hy; subst hy
      refine ⟨Or.inr ⟨hd, hq, hB⟩, fun e => ?_⟩
      rcases hx.2 hd q hq with k | k
      · omega
      · exact e.elim k (fun e => by have := Ns.own_lt hx.1 hd q hq; omega)
  · rcases hq with (hq | hq) | hq
    · have := hp.fp q hq; exact ⟨this.1, by omega⟩
    · have h1 := hp.at_.lo
      exact ⟨by omega, hq.2⟩
    · exact ⟨hq.2.2, by have := Ns.own_lt hx.1 hq.1 q hq.2.1; omega⟩
theorem DPart.added {w W : World} {B b : Nat} {bv v v' : Value} {zs : List Rd} {S S' : OS} {M F : Nat → Prop} {x : Rd} {c : Int} (hp : DPart w B b bv v zs S M F) (h0 : DAt w B b bv v zs S) (hf : FrF (fun q => q = b ∨ v.ownBlock = some q) w W) (hD : DAt (W.setCell ⟨b, 3, none⟩ (.int .i64 c)) B b bv v' (zs ++ [x]) S') (hlt : b < w.heap.size) (hS : addS S x.r = S')
    (hx : Ns w x.dv x.r.d ∧ (x.r.d ≠ [] → ∀ q, x.dv.ownBlock = some q → q < B ∨ ¬ M q)) (hv : ∀ q, v'.ownBlock = some q → v.ownBlock = some q ∨ w.heap.size ≤ q) : LogD (W.setCell ⟨b, 3, none⟩ (.int .i64 c)) B b (addS S x.r) (grow M w (W.setCell ⟨b, 3, none⟩ (.int .i64 c))) (ownF F B x w (W.setCell ⟨b, 3, none⟩ (.int .i64 c))) ∧ FrF M w (W.setCell ⟨b, 3, none⟩ (.int .i64 c)) :=
  hp.added0 h0 ⟨hf.os, hf.tape, hf.output, by rw [World.size_setCell]; exact hf.size, fun q hq hne => (World.heap_setCell_off W b 3 _ q (fun e => hne (Or.inl e))).trans (hf.block q hq hne)⟩ hD hlt hS hx hv
set_option maxHeartbeats 16000000 in
theorem dadd_is {w : World} {B b : Nat} {S : OS} {M F : Nat → Prop} (h : LogD w B b S M F) (x : Rd) (hN : Ns w x.dv x.r.d) (hf : x.r.fits) (hxq : x.r.d ≠ [] → ∀ q, x.dv.ownBlock = some q → q < B ∨ ¬ M q) : Calls Try.prog 45 #[.pointer (some ⟨b, 0, none⟩), recV x.r x.dv] w (DAddDone w B b S M F x) := by
  obtain ⟨bv, v, zs, hp⟩ := h.part
  have HKEPT := Lib.hid (fun (z : Int) (e : addE S x.r = z) (hz : z ≠ 0) (W : World) (hW : Below w.heap.size w W) => (by rw [addS_no (by rw [e]; exact hz)]; exact ⟨h.kept x hN hW, FrF.of hW⟩ : LogD W B b (addS S x.r) (grow M w W) (ownF F B x w W) ∧ FrF M w W))
  have hO := hp.at_
  obtain ⟨a0, c0, rfl⟩ := hO.row.slice
  have hal := (Below.refl w.heap.size w).alloc (Nat.le_refl _) (box9 x)
  have hbox := R9.new w x
  have kc := rcheck6_is x.r x.dv (w.alloc (box9 x)) (Ns.later hN hal) hf
  have HXQ := Lib.hid (show x.r.d ≠ [] → ∀ q, x.dv.ownBlock = some q → q < B ∨ (q < w.heap.size ∧ q ≠ b ∧ (Value.slice a0 zs.length c0).ownBlock ≠ some q) from fun hd q hq => (hxq hd q hq).imp id fun k => ⟨Ns.own_lt hN hd q hq, fun e => k (hp.m1 q (Or.inl e)), fun e => k (hp.m1 q (Or.inr e))⟩)
  have HNX := Lib.hid (And.intro hN hxq)
  have HLT6 := Lib.hid hO.lt
  have hp0 := Lib.hid (fun q hq => (hO.vb q hq).2.1)
  obtain ⟨n, hn⟩ : ∃ n, zs.length = n := ⟨_, rfl⟩
  have hlen := hO.len
  rw [hn] at hlen
  have hl400 := hp.good.l400
  have h400 : n ≤ 400 := by omega
  have HC := Lib.hid (fun (W : World) (hW : Below w.heap.size w W) => (by have := (hO.later hW).c2; rw [hn] at this; exact this : W.cell? ⟨b, 2, none⟩ = some (.slice a0 n c0)))
  have HCC := Lib.hid (fun (W : World) (hW : Below w.heap.size w W) => (hO.later hW).c0)
  have hroom := hp.good.rm
  have HG := Lib.hid hp.good
  obtain ⟨⟨zk, zss, zt, zv, ztier, ⟨zc, zst, zq⟩, zd⟩, za, zcc⟩ := x
  unfold recV Rd.dv at *
  dsimp only at *
  have HP := Lib.hid hp
  have HO := Lib.hid hO
  have HNL := Lib.hid hn
  have HAL := Lib.hid hal
  have HBOX := Lib.hid hbox
  have HN := Lib.hid hN
  obtain ⟨x0, x1, x2, x3, x4, x5, x6, x7, x8⟩ := hbox
  dsimp only at x0 x1 x2 x3 x4 x5 x6 x7 x8
  by_cases hok : Rec.ok ⟨zk, zss, zt, zv, ztier, ⟨zc, zst, zq⟩, zd⟩ = true
  · rw [Rec.err_ok.2 hok] at kc
    obtain ⟨y, hy⟩ : ∃ y, atL S.know zst = y := ⟨_, rfl⟩
    have hyb := atL_bounds S.know zst
    rw [hy] at hyb
    have hwr : IntKind.i64.wrap (y + 1) = y + 1 := by rw [IntKind.wrap_i64]; omega
    have HY := Lib.hid hy
    cases hcov : covL S.know zd with
    | false =>
      have HCOV := Lib.hid hcov
      have HE := Lib.hid (addE_order (S := S) hok (fun k => by have := k.2; dsimp only at this; rw [hcov] at this; cases this))
      clear h hp hO hal hN hf hxq hn hlen hl400 hy hyb hok hcov
      go_enter Try.func45, Try.ntmps45
      go_wp2_with (first
        | (go_at_call 41; (with_reducible refine kc.mono ?_); rintro e w1 ⟨rfl, hb1⟩
           have HB1 := Lib.hid (bel_next HAL.out hb1)
           have HX1 := Lib.hid (HBOX.out.later hb1)
           have kk := dknowO_is (HO.out.later HB1.out) HG.out
           clear hb1)
        | (go_at_call 44; (with_reducible refine kk.mono ?_); rintro e w2 ⟨vK, rfl, hJ2⟩
           have hb2 := hJ2.bel
           have hn2 := hJ2.ns
           obtain ⟨aK, cK, rfl⟩ := hn2.slice
           have HB2 := Lib.hid (bel_next HB1.out hb2)
           have HN2 := Lib.hid hn2
           have HX2 := Lib.hid (HX1.out.later hb2)
           obtain ⟨y0, y1, y2, y3, y4, y5, y6, y7, y8⟩ := HX2.out
           dsimp only at y0 y1 y2 y3 y4 y5 y6 y7 y8
           have kv := rcovers_is (.slice aK S.know.length cK) (.slice za zd.length zcc) S.know zd w2 hn2 (Ns.later HN.out HB2.out)
           rw [HCOV.out] at kv
           clear hJ2 hb2 hn2 kk)
        | (go_at_call 26; (with_reducible refine kv.mono ?_); rintro e w3 ⟨rfl, hb3⟩
           have HB3 := Lib.hid (bel_next HB2.out hb3)
           have HX3 := Lib.hid (HX2.out.later hb3)
           have HN3 := Lib.hid (Ns.later HN2.out hb3)
           clear hb3 kv))
      go_wp2_with fail
      refine wp_region_held_drew (S := (fun X : World => Below w3.heap.size w3 X)) (by kernel_rfl) (Below.refl _ _).drew (fun hHeld => ?_)
      refine wpAnyH_take (i := 0) (oi := ?a1o) (v := ?a1v) ?a1h (by kernel_rfl) (by kernel_rfl) (by kernel_rfl) ?a1q ?a1y hHeld ?a1r
      case a1h => (simp only [List.getElem?_toArray, List.getElem?_cons_zero]; rfl)
      case a1q => exact fun _ _ _ h => h
      case a1y => (refine Or.inl ⟨by first | kernel_rfl | rfl, ?_⟩; intro w hSw; (try dsimp only at hSw); obtain ⟨q0, q1, q2, q3, q4, q5, q6, q7, q8⟩ := R9.later HX3.out hSw; dsimp only at q0 q1 q2 q3 q4 q5 q6 q7 q8; go_simp <;> (try with_reducible rfl))
      try simp only [Act.put, List.setIfInBounds_toArray, List.set_cons_zero, List.set_cons_succ]
      refine wpAnyH_take (i := 1) (oi := ?a2o) (v := ?a2v) ?a2h (by kernel_rfl) (by kernel_rfl) (by kernel_rfl) ?a2q ?a2y hHeld ?a2r
      case a2h => (simp only [List.getElem?_toArray, List.getElem?_cons_succ, List.getElem?_cons_zero]; rfl)
      case a2q => exact fun _ _ _ h => h
      case a2y => (refine Or.inl ⟨by first | kernel_rfl | rfl, ?_⟩; intro w hSw; (try dsimp only at hSw); obtain ⟨q0, q1, q2, q3, q4, q5, q6, q7, q8⟩ := R9.later HX3.out hSw; dsimp only at q0 q1 q2 q3 q4 q5 q6 q7 q8; go_simp <;> (try with_reducible rfl))
      try simp only [Act.put, List.setIfInBounds_toArray, List.set_cons_zero, List.set_cons_succ]
      refine wpAnyH_take (i := 2) (oi := ?a3o) (v := ?a3v) ?a3h (by kernel_rfl) (by kernel_rfl) (by kernel_rfl) ?a3q ?a3y hHeld ?a3r
      case a3h => (simp only [List.getElem?_toArray, List.getElem?_cons_succ, List.getElem?_cons_zero]; rfl)
      case a3q => exact fun _ _ _ h => h
      case a3y => (refine Or.inl ⟨by first | kernel_rfl | rfl, ?_⟩; intro w hSw; (try dsimp only at hSw); obtain ⟨q0, q1, q2, q3, q4, q5, q6, q7, q8⟩ := R9.later HX3.out hSw; dsimp only at q0 q1 q2 q3 q4 q5 q6 q7 q8; go_simp <;> (try with_reducible rfl))
      try simp only [Act.put, List.setIfInBounds_toArray, List.set_cons_zero, List.set_cons_succ]
      refine wpAnyH_take (i := 3) (oi := ?a4o) (v := undef) ?a4h (by kernel_rfl) (by kernel_rfl) (by kernel_rfl) ?a4q ?a4y hHeld ?a4r
      case a4h => (simp only [List.getElem?_toArray, List.getElem?_cons_succ, List.getElem?_cons_zero]; rfl)
      case a4q => exact fun _ _ _ h => h
      case a4y => exact Or.inr ⟨by first | kernel_rfl | rfl, rfl⟩
      try simp only [Act.put, List.setIfInBounds_toArray, List.set_cons_zero, List.set_cons_succ]
      refine wpAnyH_take (i := 4) (oi := ?a5o) (v := undef) ?a5h (by kernel_rfl) (by kernel_rfl) (by kernel_rfl) ?a5q ?a5y hHeld ?a5r
      case a5h => (simp only [List.getElem?_toArray, List.getElem?_cons_succ, List.getElem?_cons_zero]; rfl)
      case a5q => exact fun _ _ _ h => h
      case a5y => exact Or.inr ⟨by first | kernel_rfl | rfl, rfl⟩
      try simp only [Act.put, List.setIfInBounds_toArray, List.set_cons_zero, List.set_cons_succ]
      refine wpAnyH_take (i := 5) (oi := ?a6o) (v := undef) ?a6h (by kernel_rfl) (by kernel_rfl) (by kernel_rfl) ?a6q ?a6y hHeld ?a6r
      case a6h => (simp only [List.getElem?_toArray, List.getElem?_cons_succ, List.getElem?_cons_zero]; rfl)
      case a6q => exact fun _ _ _ h => h
      case a6y => exact Or.inr ⟨by first | kernel_rfl | rfl, rfl⟩
      try simp only [Act.put, List.setIfInBounds_toArray, List.set_cons_zero, List.set_cons_succ]
      refine wpAnyH_take (i := 6) (oi := ?a7o) (v := undef) ?a7h (by kernel_rfl) (by kernel_rfl) (by kernel_rfl) ?a7q ?a7y hHeld ?a7r
      case a7h => (simp only [List.getElem?_toArray, List.getElem?_cons_succ, List.getElem?_cons_zero]; rfl)
      case a7q => exact fun _ _ _ h => h
      case a7y => exact Or.inr ⟨by first | kernel_rfl | rfl, rfl⟩
      try simp only [Act.put, List.setIfInBounds_toArray, List.set_cons_zero, List.set_cons_succ]
      refine wpAnyH_take (i := 7) (oi := ?a8o) (v := undef) ?a8h (by kernel_rfl) (by kernel_rfl) (by kernel_rfl) ?a8q ?a8y hHeld ?a8r
      case a8h => (simp only [List.getElem?_toArray, List.getElem?_cons_succ, List.getElem?_cons_zero]; rfl)
      case a8q => exact fun _ _ _ h => h
      case a8y => exact Or.inr ⟨by first | kernel_rfl | rfl, rfl⟩
      try simp only [Act.put, List.setIfInBounds_toArray, List.set_cons_zero, List.set_cons_succ]
      refine wpAnyH_take (i := 8) (oi := ?a9o) (v := undef) ?a9h (by kernel_rfl) (by kernel_rfl) (by kernel_rfl) ?a9q ?a9y hHeld ?a9r
      case a9h => (simp only [List.getElem?_toArray, List.getElem?_cons_succ, List.getElem?_cons_zero]; rfl)
      case a9q => exact fun _ _ _ h => h
      case a9y => exact Or.inr ⟨by first | kernel_rfl | rfl, rfl⟩
      try simp only [Act.put, List.setIfInBounds_toArray, List.set_cons_zero, List.set_cons_succ]
      refine wpAnyH_take (i := 9) (oi := ?a10o) (v := undef) ?a10h (by kernel_rfl) (by kernel_rfl) (by kernel_rfl) ?a10q ?a10y hHeld ?a10r
      case a10h => (simp only [List.getElem?_toArray, List.getElem?_cons_succ, List.getElem?_cons_zero]; rfl)
      case a10q => exact fun _ _ _ h => h
      case a10y => exact Or.inr ⟨by first | kernel_rfl | rfl, rfl⟩
      try simp only [Act.put, List.setIfInBounds_toArray, List.set_cons_zero, List.set_cons_succ]
      refine wpAnyH_take (i := 10) (oi := ?a11o) (v := undef) ?a11h (by kernel_rfl) (by kernel_rfl) (by kernel_rfl) ?a11q ?a11y hHeld ?a11r
      case a11h => (simp only [List.getElem?_toArray, List.getElem?_cons_succ, List.getElem?_cons_zero]; rfl)
      case a11q => exact fun _ _ _ h => h
      case a11y => exact Or.inr ⟨by first | kernel_rfl | rfl, rfl⟩
      try simp only [Act.put, List.setIfInBounds_toArray, List.set_cons_zero, List.set_cons_succ]
      refine wpAnyH_take (i := 11) (oi := ?a12o) (v := undef) ?a12h (by kernel_rfl) (by kernel_rfl) (by kernel_rfl) ?a12q ?a12y hHeld ?a12r
      case a12h => (simp only [List.getElem?_toArray, List.getElem?_cons_succ, List.getElem?_cons_zero]; rfl)
      case a12q => exact fun _ _ _ h => h
      case a12y => exact Or.inr ⟨by first | kernel_rfl | rfl, rfl⟩
      try simp only [Act.put, List.setIfInBounds_toArray, List.set_cons_zero, List.set_cons_succ]
      refine wpAnyH_take (i := 12) (oi := ?a13o) (v := undef) ?a13h (by kernel_rfl) (by kernel_rfl) (by kernel_rfl) ?a13q ?a13y hHeld ?a13r
      case a13h => (simp only [List.getElem?_toArray, List.getElem?_cons_succ, List.getElem?_cons_zero]; rfl)
      case a13q => exact fun _ _ _ h => h
      case a13y => exact Or.inr ⟨by first | kernel_rfl | rfl, rfl⟩
      try simp only [Act.put, List.setIfInBounds_toArray, List.set_cons_zero, List.set_cons_succ]
      refine wpAnyH_take (i := 13) (oi := ?a14o) (v := ?a14v) ?a14h (by kernel_rfl) (by kernel_rfl) (by kernel_rfl) ?a14q ?a14y hHeld ?a14r
      case a14h => (simp only [List.getElem?_toArray, List.getElem?_cons_succ, List.getElem?_cons_zero]; rfl)
      case a14q => exact fun _ _ _ h => h
      case a14y => (refine Or.inl ⟨by first | kernel_rfl | rfl, ?_⟩; intro w hSw; (try dsimp only at hSw); obtain ⟨q0, q1, q2, q3, q4, q5, q6, q7, q8⟩ := R9.later HX3.out hSw; dsimp only at q0 q1 q2 q3 q4 q5 q6 q7 q8; go_simp <;> (try with_reducible rfl))
      try simp only [Act.put, List.setIfInBounds_toArray, List.set_cons_zero, List.set_cons_succ]
      refine wpAnyH_done (by kernel_rfl) ?_ _
      
      go_wp2
      go_ret
      exact ⟨by rw [HE.out]; rfl, HKEPT.out _ HE.out (by decide) _ (bel_next HB3.out hHeld)⟩
    | true =>
      have HCOV := Lib.hid hcov
      by_cases hq : zq = y + 1
      · by_cases hfull : S.room ≤ (n : Int)
        · have HE := Lib.hid (addE_full (S := S) hok ⟨by dsimp only; rw [hy]; exact hq, hcov⟩ (by have := hp.good.len; omega))
          have g2 : ((n : Int) ≥ S.room) := hfull
          have g3 : decide (S.room ≤ (n : Int)) = true := decide_eq_true hfull
          have g4 : (zq != y + 1) = false := by simpa using hq
          clear hq h hp hO hal hN hf hxq hn hlen hl400 hy hyb hok hcov
          go_enter Try.func45, Try.ntmps45
          go_wp2_with (first
            | (go_at_call 41; (with_reducible refine kc.mono ?_); rintro e w1 ⟨rfl, hb1⟩
               have HB1 := Lib.hid (bel_next HAL.out hb1)
               have HX1 := Lib.hid (HBOX.out.later hb1)
               have kk := dknowO_is (HO.out.later HB1.out) HG.out
               clear hb1)
            | (go_at_call 44; (with_reducible refine kk.mono ?_); rintro e w2 ⟨vK, rfl, hJ2⟩
               have hb2 := hJ2.bel
               have hn2 := hJ2.ns
               obtain ⟨aK, cK, rfl⟩ := hn2.slice
               have HB2 := Lib.hid (bel_next HB1.out hb2)
               have HN2 := Lib.hid hn2
               have HX2 := Lib.hid (HX1.out.later hb2)
               obtain ⟨y0, y1, y2, y3, y4, y5, y6, y7, y8⟩ := HX2.out
               dsimp only at y0 y1 y2 y3 y4 y5 y6 y7 y8
               have kv := rcovers_is (.slice aK S.know.length cK) (.slice za zd.length zcc) S.know zd w2 hn2 (Ns.later HN.out HB2.out)
               rw [HCOV.out] at kv
               clear hJ2 hb2 hn2 kk)
            | (go_at_call 26; (with_reducible refine kv.mono ?_); rintro e w3 ⟨rfl, hb3⟩
               have HB3 := Lib.hid (bel_next HB2.out hb3)
               have HX3 := Lib.hid (HX2.out.later hb3)
               have HN3 := Lib.hid (Ns.later HN2.out hb3)
               clear hb3 kv))
          go_wp2_with fail
          refine wp_region_held_drew (S := (fun X : World => Below w3.heap.size w3 X)) (by kernel_rfl) (Below.refl _ _).drew (fun hHeld => ?_)
          refine wpAnyH_take (i := 0) (oi := ?c1o) (v := ?c1v) ?c1h (by kernel_rfl) (by kernel_rfl) (by kernel_rfl) ?c1q ?c1y hHeld ?c1r
          case c1h => (simp only [List.getElem?_toArray, List.getElem?_cons_zero]; rfl)
          case c1q => exact fun _ _ _ h => h
          case c1y => (refine Or.inl ⟨by first | kernel_rfl | rfl, ?_⟩; intro w hSw; (try dsimp only at hSw); obtain ⟨q0, q1, q2, q3, q4, q5, q6, q7, q8⟩ := R9.later HX3.out hSw; dsimp only at q0 q1 q2 q3 q4 q5 q6 q7 q8; go_simp <;> (try with_reducible rfl))
          try simp only [Act.put, List.setIfInBounds_toArray, List.set_cons_zero, List.set_cons_succ]
          refine wpAnyH_take (i := 1) (oi := ?c2o) (v := ?c2v) ?c2h (by kernel_rfl) (by kernel_rfl) (by kernel_rfl) ?c2q ?c2y hHeld ?c2r
          case c2h => (simp only [List.getElem?_toArray, List.getElem?_cons_succ, List.getElem?_cons_zero]; rfl)
          case c2q => exact fun _ _ _ h => h
          case c2y => (refine Or.inl ⟨by first | kernel_rfl | rfl, ?_⟩; intro w hSw; (try dsimp only at hSw); obtain ⟨q0, q1, q2, q3, q4, q5, q6, q7, q8⟩ := R9.later HX3.out hSw; dsimp only at q0 q1 q2 q3 q4 q5 q6 q7 q8; go_simp <;> (try with_reducible rfl))
          try simp only [Act.put, List.setIfInBounds_toArray, List.set_cons_zero, List.set_cons_succ]
          refine wpAnyH_take (i := 2) (oi := ?c3o) (v := ?c3v) ?c3h (by kernel_rfl) (by kernel_rfl) (by kernel_rfl) ?c3q ?c3y hHeld ?c3r
          case c3h => (simp only [List.getElem?_toArray, List.getElem?_cons_succ, List.getElem?_cons_zero]; rfl)
          case c3q => exact fun _ _ _ h => h
          case c3y => (refine Or.inl ⟨by first | kernel_rfl | rfl, ?_⟩; intro w hSw; (try dsimp only at hSw); obtain ⟨q0, q1, q2, q3, q4, q5, q6, q7, q8⟩ := R9.later HX3.out hSw; dsimp only at q0 q1 q2 q3 q4 q5 q6 q7 q8; go_simp <;> (try with_reducible rfl))
          try simp only [Act.put, List.setIfInBounds_toArray, List.set_cons_zero, List.set_cons_succ]
          refine wpAnyH_take (i := 3) (oi := ?c4o) (v := ?c4v) ?c4h (by kernel_rfl) (by kernel_rfl) (by kernel_rfl) ?c4q ?c4y hHeld ?c4r
          case c4h => (simp only [List.getElem?_toArray, List.getElem?_cons_succ, List.getElem?_cons_zero]; rfl)
          case c4q => exact fun _ _ _ h => h
          case c4y => (refine Or.inl ⟨by first | kernel_rfl | rfl, ?_⟩; intro w hSw; (try dsimp only at hSw); obtain ⟨q0, q1, q2, q3, q4, q5, q6, q7, q8⟩ := R9.later HX3.out hSw; dsimp only at q0 q1 q2 q3 q4 q5 q6 q7 q8; go_simp <;> (try with_reducible rfl))
          try simp only [Act.put, List.setIfInBounds_toArray, List.set_cons_zero, List.set_cons_succ]
          refine wpAnyH_take (i := 4) (oi := ?c5o) (v := ?c5v) ?c5h (by kernel_rfl) (by kernel_rfl) (by kernel_rfl) ?c5q ?c5y hHeld ?c5r
          case c5h => (simp only [List.getElem?_toArray, List.getElem?_cons_succ, List.getElem?_cons_zero]; rfl)
          case c5q => exact fun _ _ _ h => h
          case c5y => (refine Or.inl ⟨by first | kernel_rfl | rfl, ?_⟩; intro w hSw; (try dsimp only at hSw); obtain ⟨q0, q1, q2, q3, q4, q5, q6, q7, q8⟩ := R9.later HX3.out hSw; dsimp only at q0 q1 q2 q3 q4 q5 q6 q7 q8; go_simp <;> (try with_reducible rfl))
          try simp only [Act.put, List.setIfInBounds_toArray, List.set_cons_zero, List.set_cons_succ]
          refine wpAnyH_take (i := 5) (oi := ?c6o) (v := ?c6v) ?c6h (by kernel_rfl) (by kernel_rfl) (by kernel_rfl) ?c6q ?c6y hHeld ?c6r
          case c6h => (simp only [List.getElem?_toArray, List.getElem?_cons_succ, List.getElem?_cons_zero]; rfl)
          case c6q => exact fun _ _ _ h => h
          case c6y => (refine Or.inl ⟨by first | kernel_rfl | rfl, ?_⟩; intro w hSw; (try dsimp only at hSw); obtain ⟨q0, q1, q2, q3, q4, q5, q6, q7, q8⟩ := R9.later HX3.out hSw; dsimp only at q0 q1 q2 q3 q4 q5 q6 q7 q8; go_simp <;> (try with_reducible rfl))
          try simp only [Act.put, List.setIfInBounds_toArray, List.set_cons_zero, List.set_cons_succ]
          refine wpAnyH_take (i := 6) (oi := ?c7o) (v := ?c7v) ?c7h (by kernel_rfl) (by kernel_rfl) (by kernel_rfl) ?c7q ?c7y hHeld ?c7r
          case c7h => (simp only [List.getElem?_toArray, List.getElem?_cons_succ, List.getElem?_cons_zero]; rfl)
          case c7q => exact fun _ _ _ h => h
          case c7y => (refine Or.inl ⟨by first | kernel_rfl | rfl, ?_⟩; intro w hSw; (try dsimp only at hSw); obtain ⟨q0, q1, q2, q3, q4, q5, q6, q7, q8⟩ := R9.later HX3.out hSw; dsimp only at q0 q1 q2 q3 q4 q5 q6 q7 q8; go_simp <;> (try with_reducible rfl))
          try simp only [Act.put, List.setIfInBounds_toArray, List.set_cons_zero, List.set_cons_succ]
          refine wpAnyH_take (i := 7) (oi := ?c8o) (v := ?c8v) ?c8h (by kernel_rfl) (by kernel_rfl) (by kernel_rfl) ?c8q ?c8y hHeld ?c8r
          case c8h => (simp only [List.getElem?_toArray, List.getElem?_cons_succ, List.getElem?_cons_zero]; rfl)
          case c8q => exact fun _ _ _ h => h
          case c8y => (refine Or.inl ⟨by first | kernel_rfl | rfl, ?_⟩; intro w hSw; (try dsimp only at hSw); obtain ⟨q0, q1, q2, q3, q4, q5, q6, q7, q8⟩ := R9.later HX3.out hSw; dsimp only at q0 q1 q2 q3 q4 q5 q6 q7 q8; go_simp <;> (try with_reducible rfl))
          try simp only [Act.put, List.setIfInBounds_toArray, List.set_cons_zero, List.set_cons_succ]
          refine wpAnyH_take (i := 8) (oi := ?c9o) (v := ?c9v) ?c9h (by kernel_rfl) (by kernel_rfl) (by kernel_rfl) ?c9q ?c9y hHeld ?c9r
          case c9h => (simp only [List.getElem?_toArray, List.getElem?_cons_succ, List.getElem?_cons_zero]; rfl)
          case c9q => exact fun _ _ _ h => h
          case c9y => (refine Or.inl ⟨by first | kernel_rfl | rfl, ?_⟩; intro w hSw; (try dsimp only at hSw); obtain ⟨q0, q1, q2, q3, q4, q5, q6, q7, q8⟩ := R9.later HX3.out hSw; dsimp only at q0 q1 q2 q3 q4 q5 q6 q7 q8; go_simp <;> (try with_reducible rfl))
          try simp only [Act.put, List.setIfInBounds_toArray, List.set_cons_zero, List.set_cons_succ]
          refine wpAnyH_take (i := 9) (oi := ?c10o) (v := ?c10v) ?c10h (by kernel_rfl) (by kernel_rfl) (by kernel_rfl) ?c10q ?c10y hHeld ?c10r
          case c10h => (simp only [List.getElem?_toArray, List.getElem?_cons_succ, List.getElem?_cons_zero]; rfl)
          case c10q => exact fun _ _ _ h => h
          case c10y => (refine Or.inl ⟨by first | kernel_rfl | rfl, ?_⟩; intro w hSw; (try dsimp only at hSw); obtain ⟨q0, q1, q2, q3, q4, q5, q6, q7, q8⟩ := R9.later HX3.out hSw; dsimp only at q0 q1 q2 q3 q4 q5 q6 q7 q8; go_simp <;> (try with_reducible rfl))
          try simp only [Act.put, List.setIfInBounds_toArray, List.set_cons_zero, List.set_cons_succ]
          refine wpAnyH_ready (rs := [10]) (by kernel_rfl) (by simp) ?_
          refine (AllReadyH.cons rfl (fun K hK => ?_) AllReadyH.nil)
          go_simp
          (go_at_call 27; (with_reducible refine (rat_is (.slice aK S.know.length cK) S.know zst _ (Ns.later HN3.out hHeld)).mono ?_); rw [HY.out]; rintro e w4 ⟨rfl, hb4⟩)
          refine hK.out _ _ (bel_next hHeld hb4) (fun hHeld => ?_)
          clear hK K
          try simp only [Act.put, List.setIfInBounds_toArray, List.set_cons_zero, List.set_cons_succ]
          refine wpAnyH_take (i := 11) (oi := ?c11o) (v := ?c11v) ?c11h (by kernel_rfl) (by kernel_rfl) (by kernel_rfl) ?c11q ?c11y hHeld ?c11r
          case c11h => (simp only [List.getElem?_toArray, List.getElem?_cons_succ, List.getElem?_cons_zero]; rfl)
          case c11q => exact fun _ _ _ h => h
          case c11y => (refine Or.inl ⟨by first | kernel_rfl | rfl, ?_⟩; intro w hSw; (try dsimp only at hSw); obtain ⟨q0, q1, q2, q3, q4, q5, q6, q7, q8⟩ := R9.later HX3.out hSw; dsimp only at q0 q1 q2 q3 q4 q5 q6 q7 q8; go_simp <;> (try with_reducible rfl))
          try simp only [Act.put, List.setIfInBounds_toArray, List.set_cons_zero, List.set_cons_succ]
          refine wpAnyH_take (i := 12) (oi := ?c12o) (v := ?c12v) ?c12h (by kernel_rfl) (by kernel_rfl) (by kernel_rfl) ?c12q ?c12y hHeld ?c12r
          case c12h => (simp only [List.getElem?_toArray, List.getElem?_cons_succ, List.getElem?_cons_zero]; rfl)
          case c12q => exact fun _ _ _ h => h
          case c12y => (refine Or.inl ⟨by first | kernel_rfl | rfl, ?_⟩; intro w hSw; (try dsimp only at hSw); obtain ⟨q0, q1, q2, q3, q4, q5, q6, q7, q8⟩ := R9.later HX3.out hSw; dsimp only at q0 q1 q2 q3 q4 q5 q6 q7 q8; go_simp <;> (try with_reducible rfl))
          try simp only [Act.put, List.setIfInBounds_toArray, List.set_cons_zero, List.set_cons_succ]
          refine wpAnyH_take (i := 13) (oi := ?c13o) (v := ?c13v) ?c13h (by kernel_rfl) (by kernel_rfl) (by kernel_rfl) ?c13q ?c13y hHeld ?c13r
          case c13h => (simp only [List.getElem?_toArray, List.getElem?_cons_succ, List.getElem?_cons_zero]; rfl)
          case c13q => exact fun _ _ _ h => h
          case c13y => (refine Or.inl ⟨by first | kernel_rfl | rfl, ?_⟩; intro w hSw; (try dsimp only at hSw); obtain ⟨q0, q1, q2, q3, q4, q5, q6, q7, q8⟩ := R9.later HX3.out hSw; dsimp only at q0 q1 q2 q3 q4 q5 q6 q7 q8; go_simp <;> (try with_reducible rfl))
          try simp only [Act.put, List.setIfInBounds_toArray, List.set_cons_zero, List.set_cons_succ]
          refine wpAnyH_done (by kernel_rfl) ?_ _
          
          have HB4 := Lib.hid (bel_next HB3.out hHeld)
          have HX4 := Lib.hid (HX3.out.later hHeld)
          have HC2 := Lib.hid (fun (W : World) (hW : Below w4.heap.size w4 W) => HC.out _ (bel_next HB4.out hW))
          have HC0 := Lib.hid (fun (W : World) (hW : Below w4.heap.size w4 W) => HCC.out _ (bel_next HB4.out hW))
          clear hHeld hb4
          go_wp2_with fail
          refine wp_region_held_drew (S := (fun X : World => Below w4.heap.size w4 X)) (by kernel_rfl) (Below.refl _ _).drew (fun hHeld => ?_)
          refine wpAnyH_take (i := 0) (oi := ?d1o) (v := ?d1v) ?d1h (by kernel_rfl) (by kernel_rfl) (by kernel_rfl) ?d1q ?d1y hHeld ?d1r
          case d1h => (simp only [List.getElem?_toArray, List.getElem?_cons_zero]; rfl)
          case d1q => exact fun _ _ _ h => h
          case d1y => (refine Or.inl ⟨by first | kernel_rfl | rfl, ?_⟩; intro w hSw; (try dsimp only at hSw); have d2 := HC2.out _ hSw; have d0 := HC0.out _ hSw; go_simp <;> (try with_reducible rfl))
          try simp only [Act.put, List.setIfInBounds_toArray, List.set_cons_zero, List.set_cons_succ]
          refine wpAnyH_take (i := 1) (oi := ?d2o) (v := ?d2v) ?d2h (by kernel_rfl) (by kernel_rfl) (by kernel_rfl) ?d2q ?d2y hHeld ?d2r
          case d2h => (simp only [List.getElem?_toArray, List.getElem?_cons_succ, List.getElem?_cons_zero]; rfl)
          case d2q => exact fun _ _ _ h => h
          case d2y => (refine Or.inl ⟨by first | kernel_rfl | rfl, ?_⟩; intro w hSw; (try dsimp only at hSw); have d2 := HC2.out _ hSw; have d0 := HC0.out _ hSw; go_simp <;> (try with_reducible rfl))
          try simp only [Act.put, List.setIfInBounds_toArray, List.set_cons_zero, List.set_cons_succ]
          refine wpAnyH_take (i := 2) (oi := ?d3o) (v := ?d3v) ?d3h (by kernel_rfl) (by kernel_rfl) (by kernel_rfl) ?d3q ?d3y hHeld ?d3r
          case d3h => (simp only [List.getElem?_toArray, List.getElem?_cons_succ, List.getElem?_cons_zero]; rfl)
          case d3q => exact fun _ _ _ h => h
          case d3y => (refine Or.inl ⟨by first | kernel_rfl | rfl, ?_⟩; intro w hSw; (try dsimp only at hSw); have d2 := HC2.out _ hSw; have d0 := HC0.out _ hSw; go_simp <;> (try with_reducible rfl))
          try simp only [Act.put, List.setIfInBounds_toArray, List.set_cons_zero, List.set_cons_succ]
          refine wpAnyH_take (i := 3) (oi := ?d4o) (v := ?d4v) ?d4h (by kernel_rfl) (by kernel_rfl) (by kernel_rfl) ?d4q ?d4y hHeld ?d4r
          case d4h => (simp only [List.getElem?_toArray, List.getElem?_cons_succ, List.getElem?_cons_zero]; rfl)
          case d4q => exact fun _ _ _ h => h
          case d4y => (refine Or.inl ⟨by first | kernel_rfl | rfl, ?_⟩; intro w hSw; (try dsimp only at hSw); have d2 := HC2.out _ hSw; have d0 := HC0.out _ hSw; go_simp <;> (try with_reducible rfl))
          try simp only [Act.put, List.setIfInBounds_toArray, List.set_cons_zero, List.set_cons_succ]
          refine wpAnyH_take (i := 4) (oi := ?d5o) (v := ?d5v) ?d5h (by kernel_rfl) (by kernel_rfl) (by kernel_rfl) ?d5q ?d5y hHeld ?d5r
          case d5h => (simp only [List.getElem?_toArray, List.getElem?_cons_succ, List.getElem?_cons_zero]; rfl)
          case d5q => exact fun _ _ _ h => h
          case d5y => (refine Or.inl ⟨by first | kernel_rfl | rfl, ?_⟩; intro w hSw; (try dsimp only at hSw); have d2 := HC2.out _ hSw; have d0 := HC0.out _ hSw; go_simp <;> (try with_reducible rfl))
          try simp only [Act.put, List.setIfInBounds_toArray, List.set_cons_zero, List.set_cons_succ]
          refine wpAnyH_take (i := 5) (oi := ?d6o) (v := ?d6v) ?d6h (by kernel_rfl) (by kernel_rfl) (by kernel_rfl) ?d6q ?d6y hHeld ?d6r
          case d6h => (simp only [List.getElem?_toArray, List.getElem?_cons_succ, List.getElem?_cons_zero]; rfl)
          case d6q => exact fun _ _ _ h => h
          case d6y => (refine Or.inl ⟨by first | kernel_rfl | rfl, ?_⟩; intro w hSw; (try dsimp only at hSw); have d2 := HC2.out _ hSw; have d0 := HC0.out _ hSw; go_simp <;> (try with_reducible rfl))
          try simp only [Act.put, List.setIfInBounds_toArray, List.set_cons_zero, List.set_cons_succ]
          refine wpAnyH_take (i := 6) (oi := ?d7o) (v := ?d7v) ?d7h (by kernel_rfl) (by kernel_rfl) (by kernel_rfl) ?d7q ?d7y hHeld ?d7r
          case d7h => (simp only [List.getElem?_toArray, List.getElem?_cons_succ, List.getElem?_cons_zero]; rfl)
          case d7q => exact fun _ _ _ h => h
          case d7y => (refine Or.inl ⟨by first | kernel_rfl | rfl, ?_⟩; intro w hSw; (try dsimp only at hSw); have d2 := HC2.out _ hSw; have d0 := HC0.out _ hSw; go_simp <;> (try with_reducible rfl))
          try simp only [Act.put, List.setIfInBounds_toArray, List.set_cons_zero, List.set_cons_succ]
          refine wpAnyH_take (i := 7) (oi := ?d8o) (v := ?d8v) ?d8h (by kernel_rfl) (by kernel_rfl) (by kernel_rfl) ?d8q ?d8y hHeld ?d8r
          case d8h => (simp only [List.getElem?_toArray, List.getElem?_cons_succ, List.getElem?_cons_zero]; rfl)
          case d8q => exact fun _ _ _ h => h
          case d8y => (refine Or.inl ⟨by first | kernel_rfl | rfl, ?_⟩; intro w hSw; (try dsimp only at hSw); have d2 := HC2.out _ hSw; have d0 := HC0.out _ hSw; go_simp <;> (try with_reducible rfl))
          try simp only [Act.put, List.setIfInBounds_toArray, List.set_cons_zero, List.set_cons_succ]
          refine wpAnyH_take (i := 8) (oi := ?d9o) (v := ?d9v) ?d9h (by kernel_rfl) (by kernel_rfl) (by kernel_rfl) ?d9q ?d9y hHeld ?d9r
          case d9h => (simp only [List.getElem?_toArray, List.getElem?_cons_succ, List.getElem?_cons_zero]; rfl)
          case d9q => exact fun _ _ _ h => h
          case d9y => (refine Or.inl ⟨by first | kernel_rfl | rfl, ?_⟩; intro w hSw; (try dsimp only at hSw); have d2 := HC2.out _ hSw; have d0 := HC0.out _ hSw; go_simp <;> (try with_reducible rfl))
          try simp only [Act.put, List.setIfInBounds_toArray, List.set_cons_zero, List.set_cons_succ]
          refine wpAnyH_take (i := 9) (oi := ?d10o) (v := ?d10v) ?d10h (by kernel_rfl) (by kernel_rfl) (by kernel_rfl) ?d10q ?d10y hHeld ?d10r
          case d10h => (simp only [List.getElem?_toArray, List.getElem?_cons_succ, List.getElem?_cons_zero]; rfl)
          case d10q => exact fun _ _ _ h => h
          case d10y => (refine Or.inl ⟨by first | kernel_rfl | rfl, ?_⟩; intro w hSw; (try dsimp only at hSw); have d2 := HC2.out _ hSw; have d0 := HC0.out _ hSw; go_simp <;> (try with_reducible rfl))
          try simp only [Act.put, List.setIfInBounds_toArray, List.set_cons_zero, List.set_cons_succ]
          refine wpAnyH_done (by kernel_rfl) ?_ _
          
          go_wp2
          go_ret
          exact ⟨by rw [HE.out]; rfl, HKEPT.out _ HE.out (by decide) _ (bel_next HB4.out hHeld)⟩
        · have HE := Lib.hid (addE_yes (S := S) hok ⟨by dsimp only; rw [hy]; exact hq, hcov⟩ (by omega))
          have g3 : decide (S.room ≤ (n : Int)) = false := decide_eq_false hfull
          have g4 : (zq != y + 1) = false := by simpa using hq
          clear hq h hp hO hal hN hf hxq hn hlen hl400 hy hyb hok hcov
          go_enter Try.func45, Try.ntmps45
          go_wp2_with (first
            | (go_at_call 41; (with_reducible refine kc.mono ?_); rintro e w1 ⟨rfl, hb1⟩
               have HB1 := Lib.hid (bel_next HAL.out hb1)
               have HX1 := Lib.hid (HBOX.out.later hb1)
               have kk := dknowO_is (HO.out.later HB1.out) HG.out
               clear hb1)
            | (go_at_call 44; (with_reducible refine kk.mono ?_); rintro e w2 ⟨vK, rfl, hJ2⟩
               have hb2 := hJ2.bel
               have hn2 := hJ2.ns
               obtain ⟨aK, cK, rfl⟩ := hn2.slice
               have HB2 := Lib.hid (bel_next HB1.out hb2)
               have HN2 := Lib.hid hn2
               have HX2 := Lib.hid (HX1.out.later hb2)
               obtain ⟨y0, y1, y2, y3, y4, y5, y6, y7, y8⟩ := HX2.out
               dsimp only at y0 y1 y2 y3 y4 y5 y6 y7 y8
               have kv := rcovers_is (.slice aK S.know.length cK) (.slice za zd.length zcc) S.know zd w2 hn2 (Ns.later HN.out HB2.out)
               rw [HCOV.out] at kv
               clear hJ2 hb2 hn2 kk)
            | (go_at_call 26; (with_reducible refine kv.mono ?_); rintro e w3 ⟨rfl, hb3⟩
               have HB3 := Lib.hid (bel_next HB2.out hb3)
               have HX3 := Lib.hid (HX2.out.later hb3)
               have HN3 := Lib.hid (Ns.later HN2.out hb3)
               clear hb3 kv))
          go_wp2_with fail
          refine wp_region_held_drew (S := (fun X : World => Below w3.heap.size w3 X)) (by kernel_rfl) (Below.refl _ _).drew (fun hHeld => ?_)
          refine wpAnyH_take (i := 0) (oi := ?e1o) (v := ?e1v) ?e1h (by kernel_rfl) (by kernel_rfl) (by kernel_rfl) ?e1q ?e1y hHeld ?e1r
          case e1h => (simp only [List.getElem?_toArray, List.getElem?_cons_zero]; rfl)
          case e1q => exact fun _ _ _ h => h
          case e1y => (refine Or.inl ⟨by first | kernel_rfl | rfl, ?_⟩; intro w hSw; (try dsimp only at hSw); obtain ⟨q0, q1, q2, q3, q4, q5, q6, q7, q8⟩ := R9.later HX3.out hSw; dsimp only at q0 q1 q2 q3 q4 q5 q6 q7 q8; go_simp <;> (try with_reducible rfl))
          try simp only [Act.put, List.setIfInBounds_toArray, List.set_cons_zero, List.set_cons_succ]
          refine wpAnyH_take (i := 1) (oi := ?e2o) (v := ?e2v) ?e2h (by kernel_rfl) (by kernel_rfl) (by kernel_rfl) ?e2q ?e2y hHeld ?e2r
          case e2h => (simp only [List.getElem?_toArray, List.getElem?_cons_succ, List.getElem?_cons_zero]; rfl)
          case e2q => exact fun _ _ _ h => h
          case e2y => (refine Or.inl ⟨by first | kernel_rfl | rfl, ?_⟩; intro w hSw; (try dsimp only at hSw); obtain ⟨q0, q1, q2, q3, q4, q5, q6, q7, q8⟩ := R9.later HX3.out hSw; dsimp only at q0 q1 q2 q3 q4 q5 q6 q7 q8; go_simp <;> (try with_reducible rfl))
          try simp only [Act.put, List.setIfInBounds_toArray, List.set_cons_zero, List.set_cons_succ]
          refine wpAnyH_take (i := 2) (oi := ?e3o) (v := ?e3v) ?e3h (by kernel_rfl) (by kernel_rfl) (by kernel_rfl) ?e3q ?e3y hHeld ?e3r
          case e3h => (simp only [List.getElem?_toArray, List.getElem?_cons_succ, List.getElem?_cons_zero]; rfl)
          case e3q => exact fun _ _ _ h => h
          case e3y => (refine Or.inl ⟨by first | kernel_rfl | rfl, ?_⟩; intro w hSw; (try dsimp only at hSw); obtain ⟨q0, q1, q2, q3, q4, q5, q6, q7, q8⟩ := R9.later HX3.out hSw; dsimp only at q0 q1 q2 q3 q4 q5 q6 q7 q8; go_simp <;> (try with_reducible rfl))
          try simp only [Act.put, List.setIfInBounds_toArray, List.set_cons_zero, List.set_cons_succ]
          refine wpAnyH_take (i := 3) (oi := ?e4o) (v := ?e4v) ?e4h (by kernel_rfl) (by kernel_rfl) (by kernel_rfl) ?e4q ?e4y hHeld ?e4r
          case e4h => (simp only [List.getElem?_toArray, List.getElem?_cons_succ, List.getElem?_cons_zero]; rfl)
          case e4q => exact fun _ _ _ h => h
          case e4y => (refine Or.inl ⟨by first | kernel_rfl | rfl, ?_⟩; intro w hSw; (try dsimp only at hSw); obtain ⟨q0, q1, q2, q3, q4, q5, q6, q7, q8⟩ := R9.later HX3.out hSw; dsimp only at q0 q1 q2 q3 q4 q5 q6 q7 q8; go_simp <;> (try with_reducible rfl))
          try simp only [Act.put, List.setIfInBounds_toArray, List.set_cons_zero, List.set_cons_succ]
          refine wpAnyH_take (i := 4) (oi := ?e5o) (v := ?e5v) ?e5h (by kernel_rfl) (by kernel_rfl) (by kernel_rfl) ?e5q ?e5y hHeld ?e5r
          case e5h => (simp only [List.getElem?_toArray, List.getElem?_cons_succ, List.getElem?_cons_zero]; rfl)
          case e5q => exact fun _ _ _ h => h
          case e5y => (refine Or.inl ⟨by first | kernel_rfl | rfl, ?_⟩; intro w hSw; (try dsimp only at hSw); obtain ⟨q0, q1, q2, q3, q4, q5, q6, q7, q8⟩ := R9.later HX3.out hSw; dsimp only at q0 q1 q2 q3 q4 q5 q6 q7 q8; go_simp <;> (try with_reducible rfl))
          try simp only [Act.put, List.setIfInBounds_toArray, List.set_cons_zero, List.set_cons_succ]
          refine wpAnyH_take (i := 5) (oi := ?e6o) (v := ?e6v) ?e6h (by kernel_rfl) (by kernel_rfl) (by kernel_rfl) ?e6q ?e6y hHeld ?e6r
          case e6h => (simp only [List.getElem?_toArray, List.getElem?_cons_succ, List.getElem?_cons_zero]; rfl)
          case e6q => exact fun _ _ _ h => h
          case e6y => (refine Or.inl ⟨by first | kernel_rfl | rfl, ?_⟩; intro w hSw; (try dsimp only at hSw); obtain ⟨q0, q1, q2, q3, q4, q5, q6, q7, q8⟩ := R9.later HX3.out hSw; dsimp only at q0 q1 q2 q3 q4 q5 q6 q7 q8; go_simp <;> (try with_reducible rfl))
          try simp only [Act.put, List.setIfInBounds_toArray, List.set_cons_zero, List.set_cons_succ]
          refine wpAnyH_take (i := 6) (oi := ?e7o) (v := ?e7v) ?e7h (by kernel_rfl) (by kernel_rfl) (by kernel_rfl) ?e7q ?e7y hHeld ?e7r
          case e7h => (simp only [List.getElem?_toArray, List.getElem?_cons_succ, List.getElem?_cons_zero]; rfl)
          case e7q => exact fun _ _ _ h => h
          case e7y => (refine Or.inl ⟨by first | kernel_rfl | rfl, ?_⟩; intro w hSw; (try dsimp only at hSw); obtain ⟨q0, q1, q2, q3, q4, q5, q6, q7, q8⟩ := R9.later HX3.out hSw; dsimp only at q0 q1 q2 q3 q4 q5 q6 q7 q8; go_simp <;> (try with_reducible rfl))
          try simp only [Act.put, List.setIfInBounds_toArray, List.set_cons_zero, List.set_cons_succ]
          refine wpAnyH_take (i := 7) (oi := ?e8o) (v := ?e8v) ?e8h (by kernel_rfl) (by kernel_rfl) (by kernel_rfl) ?e8q ?e8y hHeld ?e8r
          case e8h => (simp only [List.getElem?_toArray, List.getElem?_cons_succ, List.getElem?_cons_zero]; rfl)
          case e8q => exact fun _ _ _ h => h
          case e8y => (refine Or.inl ⟨by first | kernel_rfl | rfl, ?_⟩; intro w hSw; (try dsimp only at hSw); obtain ⟨q0, q1, q2, q3, q4, q5, q6, q7, q8⟩ := R9.later HX3.out hSw; dsimp only at q0 q1 q2 q3 q4 q5 q6 q7 q8; go_simp <;> (try with_reducible rfl))
          try simp only [Act.put, List.setIfInBounds_toArray, List.set_cons_zero, List.set_cons_succ]
          refine wpAnyH_take (i := 8) (oi := ?e9o) (v := ?e9v) ?e9h (by kernel_rfl) (by kernel_rfl) (by kernel_rfl) ?e9q ?e9y hHeld ?e9r
          case e9h => (simp only [List.getElem?_toArray, List.getElem?_cons_succ, List.getElem?_cons_zero]; rfl)
          case e9q => exact fun _ _ _ h => h
          case e9y => (refine Or.inl ⟨by first | kernel_rfl | rfl, ?_⟩; intro w hSw; (try dsimp only at hSw); obtain ⟨q0, q1, q2, q3, q4, q5, q6, q7, q8⟩ := R9.later HX3.out hSw; dsimp only at q0 q1 q2 q3 q4 q5 q6 q7 q8; go_simp <;> (try with_reducible rfl))
          try simp only [Act.put, List.setIfInBounds_toArray, List.set_cons_zero, List.set_cons_succ]
          refine wpAnyH_take (i := 9) (oi := ?e10o) (v := ?e10v) ?e10h (by kernel_rfl) (by kernel_rfl) (by kernel_rfl) ?e10q ?e10y hHeld ?e10r
          case e10h => (simp only [List.getElem?_toArray, List.getElem?_cons_succ, List.getElem?_cons_zero]; rfl)
          case e10q => exact fun _ _ _ h => h
          case e10y => (refine Or.inl ⟨by first | kernel_rfl | rfl, ?_⟩; intro w hSw; (try dsimp only at hSw); obtain ⟨q0, q1, q2, q3, q4, q5, q6, q7, q8⟩ := R9.later HX3.out hSw; dsimp only at q0 q1 q2 q3 q4 q5 q6 q7 q8; go_simp <;> (try with_reducible rfl))
          try simp only [Act.put, List.setIfInBounds_toArray, List.set_cons_zero, List.set_cons_succ]
          refine wpAnyH_ready (rs := [10]) (by kernel_rfl) (by simp) ?_
          refine (AllReadyH.cons rfl (fun K hK => ?_) AllReadyH.nil)
          go_simp
          (go_at_call 27; (with_reducible refine (rat_is (.slice aK S.know.length cK) S.know zst _ (Ns.later HN3.out hHeld)).mono ?_); rw [HY.out]; rintro e w4 ⟨rfl, hb4⟩)
          refine hK.out _ _ (bel_next hHeld hb4) (fun hHeld => ?_)
          clear hK K
          try simp only [Act.put, List.setIfInBounds_toArray, List.set_cons_zero, List.set_cons_succ]
          refine wpAnyH_take (i := 11) (oi := ?e11o) (v := ?e11v) ?e11h (by kernel_rfl) (by kernel_rfl) (by kernel_rfl) ?e11q ?e11y hHeld ?e11r
          case e11h => (simp only [List.getElem?_toArray, List.getElem?_cons_succ, List.getElem?_cons_zero]; rfl)
          case e11q => exact fun _ _ _ h => h
          case e11y => (refine Or.inl ⟨by first | kernel_rfl | rfl, ?_⟩; intro w hSw; (try dsimp only at hSw); obtain ⟨q0, q1, q2, q3, q4, q5, q6, q7, q8⟩ := R9.later HX3.out hSw; dsimp only at q0 q1 q2 q3 q4 q5 q6 q7 q8; go_simp <;> (try with_reducible rfl))
          try simp only [Act.put, List.setIfInBounds_toArray, List.set_cons_zero, List.set_cons_succ]
          refine wpAnyH_take (i := 12) (oi := ?e12o) (v := ?e12v) ?e12h (by kernel_rfl) (by kernel_rfl) (by kernel_rfl) ?e12q ?e12y hHeld ?e12r
          case e12h => (simp only [List.getElem?_toArray, List.getElem?_cons_succ, List.getElem?_cons_zero]; rfl)
          case e12q => exact fun _ _ _ h => h
          case e12y => (refine Or.inl ⟨by first | kernel_rfl | rfl, ?_⟩; intro w hSw; (try dsimp only at hSw); obtain ⟨q0, q1, q2, q3, q4, q5, q6, q7, q8⟩ := R9.later HX3.out hSw; dsimp only at q0 q1 q2 q3 q4 q5 q6 q7 q8; go_simp <;> (try with_reducible rfl))
          try simp only [Act.put, List.setIfInBounds_toArray, List.set_cons_zero, List.set_cons_succ]
          refine wpAnyH_take (i := 13) (oi := ?e13o) (v := ?e13v) ?e13h (by kernel_rfl) (by kernel_rfl) (by kernel_rfl) ?e13q ?e13y hHeld ?e13r
          case e13h => (simp only [List.getElem?_toArray, List.getElem?_cons_succ, List.getElem?_cons_zero]; rfl)
          case e13q => exact fun _ _ _ h => h
          case e13y => (refine Or.inl ⟨by first | kernel_rfl | rfl, ?_⟩; intro w hSw; (try dsimp only at hSw); obtain ⟨q0, q1, q2, q3, q4, q5, q6, q7, q8⟩ := R9.later HX3.out hSw; dsimp only at q0 q1 q2 q3 q4 q5 q6 q7 q8; go_simp <;> (try with_reducible rfl))
          try simp only [Act.put, List.setIfInBounds_toArray, List.set_cons_zero, List.set_cons_succ]
          refine wpAnyH_done (by kernel_rfl) ?_ _
          
          have HB4 := Lib.hid (bel_next HB3.out hHeld)
          have HX4 := Lib.hid (HX3.out.later hHeld)
          have HC2 := Lib.hid (fun (W : World) (hW : Below w4.heap.size w4 W) => HC.out _ (bel_next HB4.out hW))
          have HC0 := Lib.hid (fun (W : World) (hW : Below w4.heap.size w4 W) => HCC.out _ (bel_next HB4.out hW))
          clear hHeld hb4
          go_wp2_with fail
          refine wp_region_held_drew (S := (fun X : World => Below w4.heap.size w4 X)) (by kernel_rfl) (Below.refl _ _).drew (fun hHeld => ?_)
          refine wpAnyH_take (i := 0) (oi := ?f1o) (v := ?f1v) ?f1h (by kernel_rfl) (by kernel_rfl) (by kernel_rfl) ?f1q ?f1y hHeld ?f1r
          case f1h => (simp only [List.getElem?_toArray, List.getElem?_cons_zero]; rfl)
          case f1q => exact fun _ _ _ h => h
          case f1y => (refine Or.inl ⟨by first | kernel_rfl | rfl, ?_⟩; intro w hSw; (try dsimp only at hSw); have d2 := HC2.out _ hSw; have d0 := HC0.out _ hSw; go_simp <;> (try with_reducible rfl))
          try simp only [Act.put, List.setIfInBounds_toArray, List.set_cons_zero, List.set_cons_succ]
          refine wpAnyH_take (i := 1) (oi := ?f2o) (v := ?f2v) ?f2h (by kernel_rfl) (by kernel_rfl) (by kernel_rfl) ?f2q ?f2y hHeld ?f2r
          case f2h => (simp only [List.getElem?_toArray, List.getElem?_cons_succ, List.getElem?_cons_zero]; rfl)
          case f2q => exact fun _ _ _ h => h
          case f2y => (refine Or.inl ⟨by first | kernel_rfl | rfl, ?_⟩; intro w hSw; (try dsimp only at hSw); have d2 := HC2.out _ hSw; have d0 := HC0.out _ hSw; go_simp <;> (try with_reducible rfl))
          try simp only [Act.put, List.setIfInBounds_toArray, List.set_cons_zero, List.set_cons_succ]
          refine wpAnyH_take (i := 2) (oi := ?f3o) (v := ?f3v) ?f3h (by kernel_rfl) (by kernel_rfl) (by kernel_rfl) ?f3q ?f3y hHeld ?f3r
          case f3h => (simp only [List.getElem?_toArray, List.getElem?_cons_succ, List.getElem?_cons_zero]; rfl)
          case f3q => exact fun _ _ _ h => h
          case f3y => (refine Or.inl ⟨by first | kernel_rfl | rfl, ?_⟩; intro w hSw; (try dsimp only at hSw); have d2 := HC2.out _ hSw; have d0 := HC0.out _ hSw; go_simp <;> (try with_reducible rfl))
          try simp only [Act.put, List.setIfInBounds_toArray, List.set_cons_zero, List.set_cons_succ]
          refine wpAnyH_take (i := 3) (oi := ?f4o) (v := ?f4v) ?f4h (by kernel_rfl) (by kernel_rfl) (by kernel_rfl) ?f4q ?f4y hHeld ?f4r
          case f4h => (simp only [List.getElem?_toArray, List.getElem?_cons_succ, List.getElem?_cons_zero]; rfl)
          case f4q => exact fun _ _ _ h => h
          case f4y => (refine Or.inl ⟨by first | kernel_rfl | rfl, ?_⟩; intro w hSw; (try dsimp only at hSw); have d2 := HC2.out _ hSw; have d0 := HC0.out _ hSw; go_simp <;> (try with_reducible rfl))
          try simp only [Act.put, List.setIfInBounds_toArray, List.set_cons_zero, List.set_cons_succ]
          refine wpAnyH_take (i := 4) (oi := ?f5o) (v := ?f5v) ?f5h (by kernel_rfl) (by kernel_rfl) (by kernel_rfl) ?f5q ?f5y hHeld ?f5r
          case f5h => (simp only [List.getElem?_toArray, List.getElem?_cons_succ, List.getElem?_cons_zero]; rfl)
          case f5q => exact fun _ _ _ h => h
          case f5y => (refine Or.inl ⟨by first | kernel_rfl | rfl, ?_⟩; intro w hSw; (try dsimp only at hSw); have d2 := HC2.out _ hSw; have d0 := HC0.out _ hSw; go_simp <;> (try with_reducible rfl))
          try simp only [Act.put, List.setIfInBounds_toArray, List.set_cons_zero, List.set_cons_succ]
          refine wpAnyH_take (i := 5) (oi := ?f6o) (v := ?f6v) ?f6h (by kernel_rfl) (by kernel_rfl) (by kernel_rfl) ?f6q ?f6y hHeld ?f6r
          case f6h => (simp only [List.getElem?_toArray, List.getElem?_cons_succ, List.getElem?_cons_zero]; rfl)
          case f6q => exact fun _ _ _ h => h
          case f6y => (refine Or.inl ⟨by first | kernel_rfl | rfl, ?_⟩; intro w hSw; (try dsimp only at hSw); have d2 := HC2.out _ hSw; have d0 := HC0.out _ hSw; go_simp <;> (try with_reducible rfl))
          try simp only [Act.put, List.setIfInBounds_toArray, List.set_cons_zero, List.set_cons_succ]
          refine wpAnyH_take (i := 6) (oi := ?f7o) (v := ?f7v) ?f7h (by kernel_rfl) (by kernel_rfl) (by kernel_rfl) ?f7q ?f7y hHeld ?f7r
          case f7h => (simp only [List.getElem?_toArray, List.getElem?_cons_succ, List.getElem?_cons_zero]; rfl)
          case f7q => exact fun _ _ _ h => h
          case f7y => (refine Or.inl ⟨by first | kernel_rfl | rfl, ?_⟩; intro w hSw; (try dsimp only at hSw); have d2 := HC2.out _ hSw; have d0 := HC0.out _ hSw; go_simp <;> (try with_reducible rfl))
          try simp only [Act.put, List.setIfInBounds_toArray, List.set_cons_zero, List.set_cons_succ]
          refine wpAnyH_take (i := 7) (oi := ?f8o) (v := ?f8v) ?f8h (by kernel_rfl) (by kernel_rfl) (by kernel_rfl) ?f8q ?f8y hHeld ?f8r
          case f8h => (simp only [List.getElem?_toArray, List.getElem?_cons_succ, List.getElem?_cons_zero]; rfl)
          case f8q => exact fun _ _ _ h => h
          case f8y => (refine Or.inl ⟨by first | kernel_rfl | rfl, ?_⟩; intro w hSw; (try dsimp only at hSw); have d2 := HC2.out _ hSw; have d0 := HC0.out _ hSw; go_simp <;> (try with_reducible rfl))
          try simp only [Act.put, List.setIfInBounds_toArray, List.set_cons_zero, List.set_cons_succ]
          refine wpAnyH_take (i := 8) (oi := ?f9o) (v := ?f9v) ?f9h (by kernel_rfl) (by kernel_rfl) (by kernel_rfl) ?f9q ?f9y hHeld ?f9r
          case f9h => (simp only [List.getElem?_toArray, List.getElem?_cons_succ, List.getElem?_cons_zero]; rfl)
          case f9q => exact fun _ _ _ h => h
          case f9y => (refine Or.inl ⟨by first | kernel_rfl | rfl, ?_⟩; intro w hSw; (try dsimp only at hSw); have d2 := HC2.out _ hSw; have d0 := HC0.out _ hSw; go_simp <;> (try with_reducible rfl))
          try simp only [Act.put, List.setIfInBounds_toArray, List.set_cons_zero, List.set_cons_succ]
          refine wpAnyH_take (i := 9) (oi := ?f10o) (v := ?f10v) ?f10h (by kernel_rfl) (by kernel_rfl) (by kernel_rfl) ?f10q ?f10y hHeld ?f10r
          case f10h => (simp only [List.getElem?_toArray, List.getElem?_cons_succ, List.getElem?_cons_zero]; rfl)
          case f10q => exact fun _ _ _ h => h
          case f10y => (refine Or.inl ⟨by first | kernel_rfl | rfl, ?_⟩; intro w hSw; (try dsimp only at hSw); have d2 := HC2.out _ hSw; have d0 := HC0.out _ hSw; go_simp <;> (try with_reducible rfl))
          try simp only [Act.put, List.setIfInBounds_toArray, List.set_cons_zero, List.set_cons_succ]
          refine wpAnyH_done (by kernel_rfl) ?_ _
          
          obtain ⟨w7, hw7⟩ : ∃ x, w4.drew = x := ⟨_, rfl⟩
          rw [hw7] at hHeld ⊢
          have hB7 := bel_next HB4.out hHeld
          have hX7 := R9.later HX4.out hHeld
          clear hw7 hHeld
          have hbd : Below w7.heap.size w7 w7.drew := (Below.refl _ _).drew
          have hbw := bel_next hB7 hbd
          have hOd := HO.out.later hbw
          have hXd := R9.later hX7 hbd
          have hal := (Below.refl w7.drew.heap.size w7.drew).alloc (Nat.le_refl _) (box9 ⟨⟨zk, zss, zt, zv, ztier, ⟨zc, zst, zq⟩, zd⟩, za, zcc⟩)
          obtain ⟨a5, c5, w5, hrun, hrow, hgr, hnew⟩ := ORow.app (w := w7.drew.alloc (box9 ⟨⟨zk, zss, zt, zv, ztier, ⟨zc, zst, zq⟩, zd⟩, za, zcc⟩)) (B := B) (r := n) (N := w7.drew.heap.size) (zs := zs) (v := .slice a0 n c0) (y := ⟨⟨zk, zss, zt, zv, ztier, ⟨zc, zst, zq⟩, zd⟩, za, zcc⟩) 43 HNL.out (by have h7 := hOd.row.later hal; rw [HNL.out] at h7; exact h7) (R9.new _ _) (by omega) (by have h8 := hOd.lo; have h9 := hOd.lt; have h10 := hal.size; omega)
          have hvo : (Value.slice a0 n c0).ownBlock = (Value.slice a0 zs.length c0).ownBlock := by cases a0 <;> rfl
          rw [hvo] at hgr hnew
          have hvl : ∀ q, (Value.slice a0 zs.length c0).ownBlock = some q → q < w7.drew.heap.size ∧ q ≠ b := fun q hq => (hOd.vb q hq).2
          have same : ∀ q, q < w7.drew.heap.size → (Value.slice a0 zs.length c0).ownBlock ≠ some q → w5.heap[q]? = w7.drew.heap[q]? := fun q hq hne => (hgr.block q (Nat.lt_of_lt_of_le hq hal.size) (fun e => hne e.symm)).trans (hal.block q hq)
          have hs5 : w7.drew.heap.size ≤ w5.heap.size := Nat.le_trans hal.size hgr.size
          have hws := hbw.size
          have HVN := Lib.hid (show ∀ q, (Value.slice a5 (n + 1) c5).ownBlock = some q → (Value.slice a0 zs.length c0).ownBlock = some q ∨ w.heap.size ≤ q from fun q hq => (hnew q hq).imp id (fun k => by have := hal.size; omega))
          have HDS := Lib.hid (hOd.app2 (W := w5) hrow hs5 same (fun q hq => (hnew q hq).imp id (fun k => by have := hal.size; omega)) (Ns.later HN.out hbw) (fun hd q hq => (HXQ.out hd q hq).imp id (fun k => ⟨by have := k.1; omega, k.2⟩)))
          have HD6a := Lib.hid HO.out
          have HFR6 := Lib.hid (show FrF (fun q => q = b ∨ (Value.slice a0 zs.length c0).ownBlock = some q) w (w5.setCell ⟨b, 2, none⟩ (.slice a5 (n + 1) c5)) from ⟨hgr.os.trans (hal.os.trans hbw.os), hgr.tape.trans (hal.tape.trans hbw.tape), hgr.output.trans (hal.output.trans hbw.output), by rw [World.size_setCell]; omega, fun q hq hne => (World.heap_setCell_off w5 b 2 _ q (fun e => hne (Or.inl e))).trans ((same q (by omega) (fun e => hne (Or.inr e))).trans (hbw.block q hq))⟩)
          have hob5 := (same b hOd.lt (fun e => (hvl b e).2 rfl)).trans hOd.obj
          have c25 : w5.cell? ⟨b, 2, none⟩ = some (.slice a0 n c0) := by rw [Joins.cell_of_block hob5]; rw [← HNL.out]; rfl
          have f25 : w5.frozen? ⟨b, 2, none⟩ = false := Joins.unfrozen_of_block hob5 _
          have c23 := hOd.c2
          rw [HNL.out] at c23
          have c24 : (w7.drew.alloc (.cells #[.int .i64 zk, .string zss, .int .i64 zt, .int .i64 zv, .int .i64 ztier, .int .i64 zc, .int .i64 zst, .int .i64 zq, .slice za zd.length zcc] 33)).cell? ⟨b, 2, none⟩ = some (.slice a0 n c0) := by (have h8 := (hOd.later hal).c2; rw [HNL.out] at h8; exact h8)
          have c27 : (w7.alloc (.cells #[.int .i64 zk, .string zss, .int .i64 zt, .int .i64 zv, .int .i64 ztier, .int .i64 zc, .int .i64 zst, .int .i64 zq, .slice za zd.length zcc] 33)).cell? ⟨b, 2, none⟩ = some (.slice a0 n c0) := by (have h8 := ((HO.out.later hB7).later ((Below.refl w7.heap.size w7).alloc (Nat.le_refl _) (box9 ⟨⟨zk, zss, zt, zv, ztier, ⟨zc, zst, zq⟩, zd⟩, za, zcc⟩))).c2; rw [HNL.out] at h8; exact h8)
          have HXd := Lib.hid hXd
          have HXa := Lib.hid (R9.later hXd hal)
          have hX5 := R9.other (R9.later hXd hal) (hgr.block _ (R9.later hXd hal).room (fun e => by have h8 := (hp0.out w.heap.size e.symm); omega))
          have HX5 := Lib.hid hX5
          have HX6 := Lib.hid (R9.other hX5 (World.heap_setCell_off w5 b 2 (.slice a5 (n + 1) c5) w.heap.size (by have h8 := HLT6.out; omega)))
          unfold box9 at hrun
          dsimp only at hrun
          clear hvo hB7 hX7 hbd hbw hOd hXd hal hrow hgr hnew hvl same hs5 hws hob5 hX5
          go_wp2_with fail
          refine wp_region_held_drew (S := (fun X : World => R9 X w.heap.size 0 ⟨⟨zk, zss, zt, zv, ztier, ⟨zc, zst, zq⟩, zd⟩, za, zcc⟩)) (by kernel_rfl) HXd.out (fun hHeld => ?_)
          refine wpAnyH_take (i := 0) (oi := ?h1o) (v := ?h1v) ?h1h (by kernel_rfl) (by kernel_rfl) (by kernel_rfl) ?h1q ?h1y hHeld ?h1r
          case h1h => (simp only [List.getElem?_toArray, List.getElem?_cons_zero]; rfl)
          case h1q => exact fun _ _ _ h => h
          case h1y => (refine Or.inl ⟨by first | kernel_rfl | rfl, ?_⟩; intro w hSw; (try dsimp only at hSw); obtain ⟨q0, q1, q2, q3, q4, q5, q6, q7, q8⟩ := hSw; dsimp only at q0 q1 q2 q3 q4 q5 q6 q7 q8; go_simp <;> (try with_reducible rfl))
          try simp only [Act.put, List.setIfInBounds_toArray, List.set_cons_zero, List.set_cons_succ]
          refine wpAnyH_take (i := 1) (oi := ?h2o) (v := ?h2v) ?h2h (by kernel_rfl) (by kernel_rfl) (by kernel_rfl) ?h2q ?h2y hHeld ?h2r
          case h2h => (simp only [List.getElem?_toArray, List.getElem?_cons_succ, List.getElem?_cons_zero]; rfl)
          case h2q => exact fun _ _ _ h => h
          case h2y => (refine Or.inl ⟨by first | kernel_rfl | rfl, ?_⟩; intro w hSw; (try dsimp only at hSw); obtain ⟨q0, q1, q2, q3, q4, q5, q6, q7, q8⟩ := hSw; dsimp only at q0 q1 q2 q3 q4 q5 q6 q7 q8; go_simp <;> (try with_reducible rfl))
          try simp only [Act.put, List.setIfInBounds_toArray, List.set_cons_zero, List.set_cons_succ]
          refine wpAnyH_take (i := 2) (oi := ?h3o) (v := ?h3v) ?h3h (by kernel_rfl) (by kernel_rfl) (by kernel_rfl) ?h3q ?h3y hHeld ?h3r
          case h3h => (simp only [List.getElem?_toArray, List.getElem?_cons_succ, List.getElem?_cons_zero]; rfl)
          case h3q => exact fun _ _ _ h => h
          case h3y => (refine Or.inl ⟨by first | kernel_rfl | rfl, ?_⟩; intro w hSw; (try dsimp only at hSw); obtain ⟨q0, q1, q2, q3, q4, q5, q6, q7, q8⟩ := hSw; dsimp only at q0 q1 q2 q3 q4 q5 q6 q7 q8; go_simp <;> (try with_reducible rfl))
          try simp only [Act.put, List.setIfInBounds_toArray, List.set_cons_zero, List.set_cons_succ]
          refine wpAnyH_take (i := 3) (oi := ?h4o) (v := ?h4v) ?h4h (by kernel_rfl) (by kernel_rfl) (by kernel_rfl) ?h4q ?h4y hHeld ?h4r
          case h4h => (simp only [List.getElem?_toArray, List.getElem?_cons_succ, List.getElem?_cons_zero]; rfl)
          case h4q => exact fun _ _ _ h => h
          case h4y => (refine Or.inl ⟨by first | kernel_rfl | rfl, ?_⟩; intro w hSw; (try dsimp only at hSw); obtain ⟨q0, q1, q2, q3, q4, q5, q6, q7, q8⟩ := hSw; dsimp only at q0 q1 q2 q3 q4 q5 q6 q7 q8; go_simp <;> (try with_reducible rfl))
          try simp only [Act.put, List.setIfInBounds_toArray, List.set_cons_zero, List.set_cons_succ]
          refine wpAnyH_take (i := 5) (oi := ?h5o) (v := ?h5v) ?h5h (by kernel_rfl) (by kernel_rfl) (by kernel_rfl) ?h5q ?h5y hHeld ?h5r
          case h5h => (simp only [List.getElem?_toArray, List.getElem?_cons_succ, List.getElem?_cons_zero]; rfl)
          case h5q => exact fun _ _ _ h => h
          case h5y => (refine Or.inl ⟨by first | kernel_rfl | rfl, ?_⟩; intro w hSw; (try dsimp only at hSw); obtain ⟨q0, q1, q2, q3, q4, q5, q6, q7, q8⟩ := hSw; dsimp only at q0 q1 q2 q3 q4 q5 q6 q7 q8; go_simp <;> (try with_reducible rfl))
          try simp only [Act.put, List.setIfInBounds_toArray, List.set_cons_zero, List.set_cons_succ]
          refine wpAnyH_ready (rs := [4, 6]) (by kernel_rfl) (by simp) ?_
          refine (AllReadyH.cons rfl (fun K hK => ?_) (AllReadyH.cons rfl (fun K hK => ?_) AllReadyH.nil))
          ·
            go_simp
            skip
            refine hK.out _ _ (hHeld) (fun hHeld => ?_)
            clear hK K
            try simp only [Act.put, List.setIfInBounds_toArray, List.set_cons_zero, List.set_cons_succ]
            refine wpAnyH_ready (rs := [6]) (by kernel_rfl) (by simp) ?_
            refine (AllReadyH.cons rfl (fun K hK => ?_) AllReadyH.nil)
            go_simp
            skip
            refine hK.out _ _ (HXa.out) (fun hHeld => ?_)
            clear hK K
            try simp only [Act.put, List.setIfInBounds_toArray, List.set_cons_zero, List.set_cons_succ]
            refine wpAnyH_ready (rs := [7]) (by kernel_rfl) (by simp) ?_
            refine (AllReadyH.cons rfl (fun K hK => ?_) AllReadyH.nil)
            refine (if_pos (by kernel_rfl)).mpr ?_
            refine Lib.wp_append_run _ _ _ _ _ rfl _ _ rfl rfl _ _ hrun ?_
            refine hK.out _ _ (HX5.out) (fun hHeld => ?_)
            clear hK K
            try simp only [Act.put, List.setIfInBounds_toArray, List.set_cons_zero, List.set_cons_succ]
            refine wpAnyH_take (i := 8) (oi := ?h6o) (v := ?h6v) ?h6h (by kernel_rfl) (by kernel_rfl) (by kernel_rfl) ?h6q ?h6y hHeld ?h6r
            case h6h => (simp only [List.getElem?_toArray, List.getElem?_cons_succ, List.getElem?_cons_zero]; rfl)
            case h6q => exact fun _ _ _ h => h
            case h6y => (refine Or.inl ⟨by first | kernel_rfl | rfl, ?_⟩; intro w hSw; (try dsimp only at hSw); obtain ⟨q0, q1, q2, q3, q4, q5, q6, q7, q8⟩ := hSw; dsimp only at q0 q1 q2 q3 q4 q5 q6 q7 q8; go_simp <;> (try with_reducible rfl))
            try simp only [Act.put, List.setIfInBounds_toArray, List.set_cons_zero, List.set_cons_succ]
            refine wpAnyH_take (i := 9) (oi := ?h7o) (v := ?h7v) ?h7h (by kernel_rfl) (by kernel_rfl) (by kernel_rfl) ?h7q ?h7y hHeld ?h7r
            case h7h => (simp only [List.getElem?_toArray, List.getElem?_cons_succ, List.getElem?_cons_zero]; rfl)
            case h7q => exact fun _ _ _ h => h
            case h7y => (refine Or.inl ⟨by first | kernel_rfl | rfl, ?_⟩; intro w hSw; (try dsimp only at hSw); obtain ⟨q0, q1, q2, q3, q4, q5, q6, q7, q8⟩ := hSw; dsimp only at q0 q1 q2 q3 q4 q5 q6 q7 q8; go_simp <;> (try with_reducible rfl))
            try simp only [Act.put, List.setIfInBounds_toArray, List.set_cons_zero, List.set_cons_succ]
            refine wpAnyH_ready (rs := [10]) (by kernel_rfl) (by simp) ?_
            refine (AllReadyH.cons rfl (fun K hK => ?_) AllReadyH.nil)
            go_simp
            skip
            refine hK.out _ _ (HX6.out) (fun hHeld => ?_)
            clear hK K
            try simp only [Act.put]
            refine wpAnyH_done (by kernel_rfl) ?_ _
            have hD6 := HDS.out
            obtain ⟨w6, hw6⟩ : ∃ x, w5.setCell ⟨b, 2, none⟩ (.slice a5 (n + 1) c5) = x := ⟨_, rfl⟩
            rw [hw6] at HX6 HFR6 HDS hD6 ⊢
            have HD6 := Lib.hid hD6
            clear hw6 hrun c25 f25 hD6 HDS hHeld
            by_cases hgt : S.clock < zc
            · have g1 : decide (S.clock < zc) = true := decide_eq_true hgt
              go_wp2_with fail
              refine wp_region_held_drew (S := (fun X : World => Below w6.heap.size w6 X)) (by kernel_rfl) (Below.refl _ _).drew (fun hHeld => ?_)
              refine wpAnyH_take (i := 0) (oi := ?kx1o) (v := ?kx1v) ?kx1h (by kernel_rfl) (by kernel_rfl) (by kernel_rfl) ?kx1q ?kx1y hHeld ?kx1r
              case kx1h => (simp only [List.getElem?_toArray, List.getElem?_cons_zero]; rfl)
              case kx1q => exact fun _ _ _ h => h
              case kx1y => (refine Or.inl ⟨by first | kernel_rfl | rfl, ?_⟩; intro w hSw; (try dsimp only at hSw); obtain ⟨q0, q1, q2, q3, q4, q5, q6, q7, q8⟩ := R9.later HX6.out hSw; dsimp only at q0 q1 q2 q3 q4 q5 q6 q7 q8; have d3 := (HD6.out.later hSw).c3; go_simp <;> (try with_reducible rfl))
              try simp only [Act.put, List.setIfInBounds_toArray, List.set_cons_zero, List.set_cons_succ]
              refine wpAnyH_take (i := 1) (oi := ?kx2o) (v := ?kx2v) ?kx2h (by kernel_rfl) (by kernel_rfl) (by kernel_rfl) ?kx2q ?kx2y hHeld ?kx2r
              case kx2h => (simp only [List.getElem?_toArray, List.getElem?_cons_succ, List.getElem?_cons_zero]; rfl)
              case kx2q => exact fun _ _ _ h => h
              case kx2y => (refine Or.inl ⟨by first | kernel_rfl | rfl, ?_⟩; intro w hSw; (try dsimp only at hSw); obtain ⟨q0, q1, q2, q3, q4, q5, q6, q7, q8⟩ := R9.later HX6.out hSw; dsimp only at q0 q1 q2 q3 q4 q5 q6 q7 q8; have d3 := (HD6.out.later hSw).c3; go_simp <;> (try with_reducible rfl))
              try simp only [Act.put, List.setIfInBounds_toArray, List.set_cons_zero, List.set_cons_succ]
              refine wpAnyH_take (i := 2) (oi := ?kx3o) (v := ?kx3v) ?kx3h (by kernel_rfl) (by kernel_rfl) (by kernel_rfl) ?kx3q ?kx3y hHeld ?kx3r
              case kx3h => (simp only [List.getElem?_toArray, List.getElem?_cons_succ, List.getElem?_cons_zero]; rfl)
              case kx3q => exact fun _ _ _ h => h
              case kx3y => (refine Or.inl ⟨by first | kernel_rfl | rfl, ?_⟩; intro w hSw; (try dsimp only at hSw); obtain ⟨q0, q1, q2, q3, q4, q5, q6, q7, q8⟩ := R9.later HX6.out hSw; dsimp only at q0 q1 q2 q3 q4 q5 q6 q7 q8; have d3 := (HD6.out.later hSw).c3; go_simp <;> (try with_reducible rfl))
              try simp only [Act.put, List.setIfInBounds_toArray, List.set_cons_zero, List.set_cons_succ]
              refine wpAnyH_take (i := 3) (oi := ?kx4o) (v := ?kx4v) ?kx4h (by kernel_rfl) (by kernel_rfl) (by kernel_rfl) ?kx4q ?kx4y hHeld ?kx4r
              case kx4h => (simp only [List.getElem?_toArray, List.getElem?_cons_succ, List.getElem?_cons_zero]; rfl)
              case kx4q => exact fun _ _ _ h => h
              case kx4y => (refine Or.inl ⟨by first | kernel_rfl | rfl, ?_⟩; intro w hSw; (try dsimp only at hSw); obtain ⟨q0, q1, q2, q3, q4, q5, q6, q7, q8⟩ := R9.later HX6.out hSw; dsimp only at q0 q1 q2 q3 q4 q5 q6 q7 q8; have d3 := (HD6.out.later hSw).c3; go_simp <;> (try with_reducible rfl))
              try simp only [Act.put, List.setIfInBounds_toArray, List.set_cons_zero, List.set_cons_succ]
              refine wpAnyH_take (i := 4) (oi := ?kx5o) (v := ?kx5v) ?kx5h (by kernel_rfl) (by kernel_rfl) (by kernel_rfl) ?kx5q ?kx5y hHeld ?kx5r
              case kx5h => (simp only [List.getElem?_toArray, List.getElem?_cons_succ, List.getElem?_cons_zero]; rfl)
              case kx5q => exact fun _ _ _ h => h
              case kx5y => (refine Or.inl ⟨by first | kernel_rfl | rfl, ?_⟩; intro w hSw; (try dsimp only at hSw); obtain ⟨q0, q1, q2, q3, q4, q5, q6, q7, q8⟩ := R9.later HX6.out hSw; dsimp only at q0 q1 q2 q3 q4 q5 q6 q7 q8; have d3 := (HD6.out.later hSw).c3; go_simp <;> (try with_reducible rfl))
              try simp only [Act.put, List.setIfInBounds_toArray, List.set_cons_zero, List.set_cons_succ]
              refine wpAnyH_take (i := 5) (oi := ?kx6o) (v := ?kx6v) ?kx6h (by kernel_rfl) (by kernel_rfl) (by kernel_rfl) ?kx6q ?kx6y hHeld ?kx6r
              case kx6h => (simp only [List.getElem?_toArray, List.getElem?_cons_succ, List.getElem?_cons_zero]; rfl)
              case kx6q => exact fun _ _ _ h => h
              case kx6y => (refine Or.inl ⟨by first | kernel_rfl | rfl, ?_⟩; intro w hSw; (try dsimp only at hSw); obtain ⟨q0, q1, q2, q3, q4, q5, q6, q7, q8⟩ := R9.later HX6.out hSw; dsimp only at q0 q1 q2 q3 q4 q5 q6 q7 q8; have d3 := (HD6.out.later hSw).c3; go_simp <;> (try with_reducible rfl))
              try simp only [Act.put, List.setIfInBounds_toArray, List.set_cons_zero, List.set_cons_succ]
              refine wpAnyH_take (i := 6) (oi := ?kx7o) (v := ?kx7v) ?kx7h (by kernel_rfl) (by kernel_rfl) (by kernel_rfl) ?kx7q ?kx7y hHeld ?kx7r
              case kx7h => (simp only [List.getElem?_toArray, List.getElem?_cons_succ, List.getElem?_cons_zero]; rfl)
              case kx7q => exact fun _ _ _ h => h
              case kx7y => (refine Or.inl ⟨by first | kernel_rfl | rfl, ?_⟩; intro w hSw; (try dsimp only at hSw); obtain ⟨q0, q1, q2, q3, q4, q5, q6, q7, q8⟩ := R9.later HX6.out hSw; dsimp only at q0 q1 q2 q3 q4 q5 q6 q7 q8; have d3 := (HD6.out.later hSw).c3; go_simp <;> (try with_reducible rfl))
              try simp only [Act.put, List.setIfInBounds_toArray, List.set_cons_zero, List.set_cons_succ]
              refine wpAnyH_take (i := 7) (oi := ?kx8o) (v := ?kx8v) ?kx8h (by kernel_rfl) (by kernel_rfl) (by kernel_rfl) ?kx8q ?kx8y hHeld ?kx8r
              case kx8h => (simp only [List.getElem?_toArray, List.getElem?_cons_succ, List.getElem?_cons_zero]; rfl)
              case kx8q => exact fun _ _ _ h => h
              case kx8y => (refine Or.inl ⟨by first | kernel_rfl | rfl, ?_⟩; intro w hSw; (try dsimp only at hSw); obtain ⟨q0, q1, q2, q3, q4, q5, q6, q7, q8⟩ := R9.later HX6.out hSw; dsimp only at q0 q1 q2 q3 q4 q5 q6 q7 q8; have d3 := (HD6.out.later hSw).c3; go_simp <;> (try with_reducible rfl))
              try simp only [Act.put, List.setIfInBounds_toArray, List.set_cons_zero, List.set_cons_succ]
              refine wpAnyH_done (by kernel_rfl) ?_ _
          
              have hD7 := HD6.out.later hHeld
              have c3 := hD7.c3
              have f3 := hD7.fz 3
              obtain ⟨q0, q1, q2, q3, q4, q5, q6, q7, q8⟩ := R9.later HX6.out hHeld
              dsimp only at q0 q1 q2 q3 q4 q5 q6 q7 q8
              have HFIN := Lib.hid (HP.out.added HD6a.out (FrF.next HFR6.out (FrF.of hHeld) (fun _ _ e => e)) (hD7.set3 zc) HLT6.out (by rw [addS_yes HE.out]; dsimp only; rw [Int.max_eq_right (by omega)]) HNX.out HVN.out)
              clear hD7
          
              go_wp2
              go_ret
              exact ⟨by rw [HE.out]; rfl, HFIN.out.1, HFIN.out.2⟩
            · have g1 : decide (S.clock < zc) = false := decide_eq_false hgt
              go_wp2_with fail
              refine wp_region_held_drew (S := (fun X : World => Below w6.heap.size w6 X)) (by kernel_rfl) (Below.refl _ _).drew (fun hHeld => ?_)
              refine wpAnyH_take (i := 0) (oi := ?lx1o) (v := ?lx1v) ?lx1h (by kernel_rfl) (by kernel_rfl) (by kernel_rfl) ?lx1q ?lx1y hHeld ?lx1r
              case lx1h => (simp only [List.getElem?_toArray, List.getElem?_cons_zero]; rfl)
              case lx1q => exact fun _ _ _ h => h
              case lx1y => (refine Or.inl ⟨by first | kernel_rfl | rfl, ?_⟩; intro w hSw; (try dsimp only at hSw); obtain ⟨q0, q1, q2, q3, q4, q5, q6, q7, q8⟩ := R9.later HX6.out hSw; dsimp only at q0 q1 q2 q3 q4 q5 q6 q7 q8; have d3 := (HD6.out.later hSw).c3; go_simp <;> (try with_reducible rfl))
              try simp only [Act.put, List.setIfInBounds_toArray, List.set_cons_zero, List.set_cons_succ]
              refine wpAnyH_take (i := 1) (oi := ?lx2o) (v := ?lx2v) ?lx2h (by kernel_rfl) (by kernel_rfl) (by kernel_rfl) ?lx2q ?lx2y hHeld ?lx2r
              case lx2h => (simp only [List.getElem?_toArray, List.getElem?_cons_succ, List.getElem?_cons_zero]; rfl)
              case lx2q => exact fun _ _ _ h => h
              case lx2y => (refine Or.inl ⟨by first | kernel_rfl | rfl, ?_⟩; intro w hSw; (try dsimp only at hSw); obtain ⟨q0, q1, q2, q3, q4, q5, q6, q7, q8⟩ := R9.later HX6.out hSw; dsimp only at q0 q1 q2 q3 q4 q5 q6 q7 q8; have d3 := (HD6.out.later hSw).c3; go_simp <;> (try with_reducible rfl))
              try simp only [Act.put, List.setIfInBounds_toArray, List.set_cons_zero, List.set_cons_succ]
              refine wpAnyH_take (i := 2) (oi := ?lx3o) (v := ?lx3v) ?lx3h (by kernel_rfl) (by kernel_rfl) (by kernel_rfl) ?lx3q ?lx3y hHeld ?lx3r
              case lx3h => (simp only [List.getElem?_toArray, List.getElem?_cons_succ, List.getElem?_cons_zero]; rfl)
              case lx3q => exact fun _ _ _ h => h
              case lx3y => (refine Or.inl ⟨by first | kernel_rfl | rfl, ?_⟩; intro w hSw; (try dsimp only at hSw); obtain ⟨q0, q1, q2, q3, q4, q5, q6, q7, q8⟩ := R9.later HX6.out hSw; dsimp only at q0 q1 q2 q3 q4 q5 q6 q7 q8; have d3 := (HD6.out.later hSw).c3; go_simp <;> (try with_reducible rfl))
              try simp only [Act.put, List.setIfInBounds_toArray, List.set_cons_zero, List.set_cons_succ]
              refine wpAnyH_take (i := 3) (oi := ?lx4o) (v := ?lx4v) ?lx4h (by kernel_rfl) (by kernel_rfl) (by kernel_rfl) ?lx4q ?lx4y hHeld ?lx4r
              case lx4h => (simp only [List.getElem?_toArray, List.getElem?_cons_succ, List.getElem?_cons_zero]; rfl)
              case lx4q => exact fun _ _ _ h => h
              case lx4y => (refine Or.inl ⟨by first | kernel_rfl | rfl, ?_⟩; intro w hSw; (try dsimp only at hSw); obtain ⟨q0, q1, q2, q3, q4, q5, q6, q7, q8⟩ := R9.later HX6.out hSw; dsimp only at q0 q1 q2 q3 q4 q5 q6 q7 q8; have d3 := (HD6.out.later hSw).c3; go_simp <;> (try with_reducible rfl))
              try simp only [Act.put, List.setIfInBounds_toArray, List.set_cons_zero, List.set_cons_succ]
              refine wpAnyH_take (i := 4) (oi := ?lx5o) (v := ?lx5v) ?lx5h (by kernel_rfl) (by kernel_rfl) (by kernel_rfl) ?lx5q ?lx5y hHeld ?lx5r
              case lx5h => (simp only [List.getElem?_toArray, List.getElem?_cons_succ, List.getElem?_cons_zero]; rfl)
              case lx5q => exact fun _ _ _ h => h
              case lx5y => (refine Or.inl ⟨by first | kernel_rfl | rfl, ?_⟩; intro w hSw; (try dsimp only at hSw); obtain ⟨q0, q1, q2, q3, q4, q5, q6, q7, q8⟩ := R9.later HX6.out hSw; dsimp only at q0 q1 q2 q3 q4 q5 q6 q7 q8; have d3 := (HD6.out.later hSw).c3; go_simp <;> (try with_reducible rfl))
              try simp only [Act.put, List.setIfInBounds_toArray, List.set_cons_zero, List.set_cons_succ]
              refine wpAnyH_take (i := 5) (oi := ?lx6o) (v := ?lx6v) ?lx6h (by kernel_rfl) (by kernel_rfl) (by kernel_rfl) ?lx6q ?lx6y hHeld ?lx6r
              case lx6h => (simp only [List.getElem?_toArray, List.getElem?_cons_succ, List.getElem?_cons_zero]; rfl)
              case lx6q => exact fun _ _ _ h => h
              case lx6y => (refine Or.inl ⟨by first | kernel_rfl | rfl, ?_⟩; intro w hSw; (try dsimp only at hSw); obtain ⟨q0, q1, q2, q3, q4, q5, q6, q7, q8⟩ := R9.later HX6.out hSw; dsimp only at q0 q1 q2 q3 q4 q5 q6 q7 q8; have d3 := (HD6.out.later hSw).c3; go_simp <;> (try with_reducible rfl))
              try simp only [Act.put, List.setIfInBounds_toArray, List.set_cons_zero, List.set_cons_succ]
              refine wpAnyH_take (i := 6) (oi := ?lx7o) (v := ?lx7v) ?lx7h (by kernel_rfl) (by kernel_rfl) (by kernel_rfl) ?lx7q ?lx7y hHeld ?lx7r
              case lx7h => (simp only [List.getElem?_toArray, List.getElem?_cons_succ, List.getElem?_cons_zero]; rfl)
              case lx7q => exact fun _ _ _ h => h
              case lx7y => (refine Or.inl ⟨by first | kernel_rfl | rfl, ?_⟩; intro w hSw; (try dsimp only at hSw); obtain ⟨q0, q1, q2, q3, q4, q5, q6, q7, q8⟩ := R9.later HX6.out hSw; dsimp only at q0 q1 q2 q3 q4 q5 q6 q7 q8; have d3 := (HD6.out.later hSw).c3; go_simp <;> (try with_reducible rfl))
              try simp only [Act.put, List.setIfInBounds_toArray, List.set_cons_zero, List.set_cons_succ]
              refine wpAnyH_take (i := 7) (oi := ?lx8o) (v := ?lx8v) ?lx8h (by kernel_rfl) (by kernel_rfl) (by kernel_rfl) ?lx8q ?lx8y hHeld ?lx8r
              case lx8h => (simp only [List.getElem?_toArray, List.getElem?_cons_succ, List.getElem?_cons_zero]; rfl)
              case lx8q => exact fun _ _ _ h => h
              case lx8y => (refine Or.inl ⟨by first | kernel_rfl | rfl, ?_⟩; intro w hSw; (try dsimp only at hSw); obtain ⟨q0, q1, q2, q3, q4, q5, q6, q7, q8⟩ := R9.later HX6.out hSw; dsimp only at q0 q1 q2 q3 q4 q5 q6 q7 q8; have d3 := (HD6.out.later hSw).c3; go_simp <;> (try with_reducible rfl))
              try simp only [Act.put, List.setIfInBounds_toArray, List.set_cons_zero, List.set_cons_succ]
              refine wpAnyH_done (by kernel_rfl) ?_ _
          
              have hD7 := HD6.out.later hHeld
              have HFIN := Lib.hid (HP.out.added0 HD6a.out (FrF.next HFR6.out (FrF.of hHeld) (fun _ _ e => e)) hD7 HLT6.out (by rw [addS_yes HE.out]; dsimp only; rw [Int.max_eq_left (by omega)]) HNX.out HVN.out)
              clear hD7
          
              go_wp2
              go_ret
              exact ⟨by rw [HE.out]; rfl, HFIN.out.1, HFIN.out.2⟩
          ·
            go_simp
            skip
            refine hK.out _ _ (HXa.out) (fun hHeld => ?_)
            clear hK K
            try simp only [Act.put, List.setIfInBounds_toArray, List.set_cons_zero, List.set_cons_succ]
            refine wpAnyH_ready (rs := [4]) (by kernel_rfl) (by simp) ?_
            refine (AllReadyH.cons rfl (fun K hK => ?_) AllReadyH.nil)
            go_simp
            skip
            refine hK.out _ _ (hHeld) (fun hHeld => ?_)
            clear hK K
            try simp only [Act.put, List.setIfInBounds_toArray, List.set_cons_zero, List.set_cons_succ]
            refine wpAnyH_ready (rs := [7]) (by kernel_rfl) (by simp) ?_
            refine (AllReadyH.cons rfl (fun K hK => ?_) AllReadyH.nil)
            refine (if_pos (by kernel_rfl)).mpr ?_
            refine Lib.wp_append_run _ _ _ _ _ rfl _ _ rfl rfl _ _ hrun ?_
            refine hK.out _ _ (HX5.out) (fun hHeld => ?_)
            clear hK K
            try simp only [Act.put, List.setIfInBounds_toArray, List.set_cons_zero, List.set_cons_succ]
            refine wpAnyH_take (i := 8) (oi := ?h8o) (v := ?h8v) ?h8h (by kernel_rfl) (by kernel_rfl) (by kernel_rfl) ?h8q ?h8y hHeld ?h8r
            case h8h => (simp only [List.getElem?_toArray, List.getElem?_cons_succ, List.getElem?_cons_zero]; rfl)
            case h8q => exact fun _ _ _ h => h
            case h8y => (refine Or.inl ⟨by first | kernel_rfl | rfl, ?_⟩; intro w hSw; (try dsimp only at hSw); obtain ⟨q0, q1, q2, q3, q4, q5, q6, q7, q8⟩ := hSw; dsimp only at q0 q1 q2 q3 q4 q5 q6 q7 q8; go_simp <;> (try with_reducible rfl))
            try simp only [Act.put, List.setIfInBounds_toArray, List.set_cons_zero, List.set_cons_succ]
            refine wpAnyH_take (i := 9) (oi := ?h9o) (v := ?h9v) ?h9h (by kernel_rfl) (by kernel_rfl) (by kernel_rfl) ?h9q ?h9y hHeld ?h9r
            case h9h => (simp only [List.getElem?_toArray, List.getElem?_cons_succ, List.getElem?_cons_zero]; rfl)
            case h9q => exact fun _ _ _ h => h
            case h9y => (refine Or.inl ⟨by first | kernel_rfl | rfl, ?_⟩; intro w hSw; (try dsimp only at hSw); obtain ⟨q0, q1, q2, q3, q4, q5, q6, q7, q8⟩ := hSw; dsimp only at q0 q1 q2 q3 q4 q5 q6 q7 q8; go_simp <;> (try with_reducible rfl))
            try simp only [Act.put, List.setIfInBounds_toArray, List.set_cons_zero, List.set_cons_succ]
            refine wpAnyH_ready (rs := [10]) (by kernel_rfl) (by simp) ?_
            refine (AllReadyH.cons rfl (fun K hK => ?_) AllReadyH.nil)
            go_simp
            skip
            refine hK.out _ _ (HX6.out) (fun hHeld => ?_)
            clear hK K
            try simp only [Act.put]
            refine wpAnyH_done (by kernel_rfl) ?_ _
            have hD6 := HDS.out
            obtain ⟨w6, hw6⟩ : ∃ x, w5.setCell ⟨b, 2, none⟩ (.slice a5 (n + 1) c5) = x := ⟨_, rfl⟩
            rw [hw6] at HX6 HFR6 HDS hD6 ⊢
            have HD6 := Lib.hid hD6
            clear hw6 hrun c25 f25 hD6 HDS hHeld
            by_cases hgt : S.clock < zc
            · have g1 : decide (S.clock < zc) = true := decide_eq_true hgt
              go_wp2_with fail
              refine wp_region_held_drew (S := (fun X : World => Below w6.heap.size w6 X)) (by kernel_rfl) (Below.refl _ _).drew (fun hHeld => ?_)
              refine wpAnyH_take (i := 0) (oi := ?ky1o) (v := ?ky1v) ?ky1h (by kernel_rfl) (by kernel_rfl) (by kernel_rfl) ?ky1q ?ky1y hHeld ?ky1r
              case ky1h => (simp only [List.getElem?_toArray, List.getElem?_cons_zero]; rfl)
              case ky1q => exact fun _ _ _ h => h
              case ky1y => (refine Or.inl ⟨by first | kernel_rfl | rfl, ?_⟩; intro w hSw; (try dsimp only at hSw); obtain ⟨q0, q1, q2, q3, q4, q5, q6, q7, q8⟩ := R9.later HX6.out hSw; dsimp only at q0 q1 q2 q3 q4 q5 q6 q7 q8; have d3 := (HD6.out.later hSw).c3; go_simp <;> (try with_reducible rfl))
              try simp only [Act.put, List.setIfInBounds_toArray, List.set_cons_zero, List.set_cons_succ]
              refine wpAnyH_take (i := 1) (oi := ?ky2o) (v := ?ky2v) ?ky2h (by kernel_rfl) (by kernel_rfl) (by kernel_rfl) ?ky2q ?ky2y hHeld ?ky2r
              case ky2h => (simp only [List.getElem?_toArray, List.getElem?_cons_succ, List.getElem?_cons_zero]; rfl)
              case ky2q => exact fun _ _ _ h => h
              case ky2y => (refine Or.inl ⟨by first | kernel_rfl | rfl, ?_⟩; intro w hSw; (try dsimp only at hSw); obtain ⟨q0, q1, q2, q3, q4, q5, q6, q7, q8⟩ := R9.later HX6.out hSw; dsimp only at q0 q1 q2 q3 q4 q5 q6 q7 q8; have d3 := (HD6.out.later hSw).c3; go_simp <;> (try with_reducible rfl))
              try simp only [Act.put, List.setIfInBounds_toArray, List.set_cons_zero, List.set_cons_succ]
              refine wpAnyH_take (i := 2) (oi := ?ky3o) (v := ?ky3v) ?ky3h (by kernel_rfl) (by kernel_rfl) (by kernel_rfl) ?ky3q ?ky3y hHeld ?ky3r
              case ky3h => (simp only [List.getElem?_toArray, List.getElem?_cons_succ, List.getElem?_cons_zero]; rfl)
              case ky3q => exact fun _ _ _ h => h
              case ky3y => (refine Or.inl ⟨by first | kernel_rfl | rfl, ?_⟩; intro w hSw; (try dsimp only at hSw); obtain ⟨q0, q1, q2, q3, q4, q5, q6, q7, q8⟩ := R9.later HX6.out hSw; dsimp only at q0 q1 q2 q3 q4 q5 q6 q7 q8; have d3 := (HD6.out.later hSw).c3; go_simp <;> (try with_reducible rfl))
              try simp only [Act.put, List.setIfInBounds_toArray, List.set_cons_zero, List.set_cons_succ]
              refine wpAnyH_take (i := 3) (oi := ?ky4o) (v := ?ky4v) ?ky4h (by kernel_rfl) (by kernel_rfl) (by kernel_rfl) ?ky4q ?ky4y hHeld ?ky4r
              case ky4h => (simp only [List.getElem?_toArray, List.getElem?_cons_succ, List.getElem?_cons_zero]; rfl)
              case ky4q => exact fun _ _ _ h => h
              case ky4y => (refine Or.inl ⟨by first | kernel_rfl | rfl, ?_⟩; intro w hSw; (try dsimp only at hSw); obtain ⟨q0, q1, q2, q3, q4, q5, q6, q7, q8⟩ := R9.later HX6.out hSw; dsimp only at q0 q1 q2 q3 q4 q5 q6 q7 q8; have d3 := (HD6.out.later hSw).c3; go_simp <;> (try with_reducible rfl))
              try simp only [Act.put, List.setIfInBounds_toArray, List.set_cons_zero, List.set_cons_succ]
              refine wpAnyH_take (i := 4) (oi := ?ky5o) (v := ?ky5v) ?ky5h (by kernel_rfl) (by kernel_rfl) (by kernel_rfl) ?ky5q ?ky5y hHeld ?ky5r
              case ky5h => (simp only [List.getElem?_toArray, List.getElem?_cons_succ, List.getElem?_cons_zero]; rfl)
              case ky5q => exact fun _ _ _ h => h
              case ky5y => (refine Or.inl ⟨by first | kernel_rfl | rfl, ?_⟩; intro w hSw; (try dsimp only at hSw); obtain ⟨q0, q1, q2, q3, q4, q5, q6, q7, q8⟩ := R9.later HX6.out hSw; dsimp only at q0 q1 q2 q3 q4 q5 q6 q7 q8; have d3 := (HD6.out.later hSw).c3; go_simp <;> (try with_reducible rfl))
              try simp only [Act.put, List.setIfInBounds_toArray, List.set_cons_zero, List.set_cons_succ]
              refine wpAnyH_take (i := 5) (oi := ?ky6o) (v := ?ky6v) ?ky6h (by kernel_rfl) (by kernel_rfl) (by kernel_rfl) ?ky6q ?ky6y hHeld ?ky6r
              case ky6h => (simp only [List.getElem?_toArray, List.getElem?_cons_succ, List.getElem?_cons_zero]; rfl)
              case ky6q => exact fun _ _ _ h => h
              case ky6y => (refine Or.inl ⟨by first | kernel_rfl | rfl, ?_⟩; intro w hSw; (try dsimp only at hSw); obtain ⟨q0, q1, q2, q3, q4, q5, q6, q7, q8⟩ := R9.later HX6.out hSw; dsimp only at q0 q1 q2 q3 q4 q5 q6 q7 q8; have d3 := (HD6.out.later hSw).c3; go_simp <;> (try with_reducible rfl))
              try simp only [Act.put, List.setIfInBounds_toArray, List.set_cons_zero, List.set_cons_succ]
              refine wpAnyH_take (i := 6) (oi := ?ky7o) (v := ?ky7v) ?ky7h (by kernel_rfl) (by kernel_rfl) (by kernel_rfl) ?ky7q ?ky7y hHeld ?ky7r
              case ky7h => (simp only [List.getElem?_toArray, List.getElem?_cons_succ, List.getElem?_cons_zero]; rfl)
              case ky7q => exact fun _ _ _ h => h
              case ky7y => (refine Or.inl ⟨by first | kernel_rfl | rfl, ?_⟩; intro w hSw; (try dsimp only at hSw); obtain ⟨q0, q1, q2, q3, q4, q5, q6, q7, q8⟩ := R9.later HX6.out hSw; dsimp only at q0 q1 q2 q3 q4 q5 q6 q7 q8; have d3 := (HD6.out.later hSw).c3; go_simp <;> (try with_reducible rfl))
              try simp only [Act.put, List.setIfInBounds_toArray, List.set_cons_zero, List.set_cons_succ]
              refine wpAnyH_take (i := 7) (oi := ?ky8o) (v := ?ky8v) ?ky8h (by kernel_rfl) (by kernel_rfl) (by kernel_rfl) ?ky8q ?ky8y hHeld ?ky8r
              case ky8h => (simp only [List.getElem?_toArray, List.getElem?_cons_succ, List.getElem?_cons_zero]; rfl)
              case ky8q => exact fun _ _ _ h => h
              case ky8y => (refine Or.inl ⟨by first | kernel_rfl | rfl, ?_⟩; intro w hSw; (try dsimp only at hSw); obtain ⟨q0, q1, q2, q3, q4, q5, q6, q7, q8⟩ := R9.later HX6.out hSw; dsimp only at q0 q1 q2 q3 q4 q5 q6 q7 q8; have d3 := (HD6.out.later hSw).c3; go_simp <;> (try with_reducible rfl))
              try simp only [Act.put, List.setIfInBounds_toArray, List.set_cons_zero, List.set_cons_succ]
              refine wpAnyH_done (by kernel_rfl) ?_ _
          
              have hD7 := HD6.out.later hHeld
              have c3 := hD7.c3
              have f3 := hD7.fz 3
              obtain ⟨q0, q1, q2, q3, q4, q5, q6, q7, q8⟩ := R9.later HX6.out hHeld
              dsimp only at q0 q1 q2 q3 q4 q5 q6 q7 q8
              have HFIN := Lib.hid (HP.out.added HD6a.out (FrF.next HFR6.out (FrF.of hHeld) (fun _ _ e => e)) (hD7.set3 zc) HLT6.out (by rw [addS_yes HE.out]; dsimp only; rw [Int.max_eq_right (by omega)]) HNX.out HVN.out)
              clear hD7
          
              go_wp2
              go_ret
              exact ⟨by rw [HE.out]; rfl, HFIN.out.1, HFIN.out.2⟩
            · have g1 : decide (S.clock < zc) = false := decide_eq_false hgt
              go_wp2_with fail
              refine wp_region_held_drew (S := (fun X : World => Below w6.heap.size w6 X)) (by kernel_rfl) (Below.refl _ _).drew (fun hHeld => ?_)
              refine wpAnyH_take (i := 0) (oi := ?ly1o) (v := ?ly1v) ?ly1h (by kernel_rfl) (by kernel_rfl) (by kernel_rfl) ?ly1q ?ly1y hHeld ?ly1r
              case ly1h => (simp only [List.getElem?_toArray, List.getElem?_cons_zero]; rfl)
              case ly1q => exact fun _ _ _ h => h
              case ly1y => (refine Or.inl ⟨by first | kernel_rfl | rfl, ?_⟩; intro w hSw; (try dsimp only at hSw); obtain ⟨q0, q1, q2, q3, q4, q5, q6, q7, q8⟩ := R9.later HX6.out hSw; dsimp only at q0 q1 q2 q3 q4 q5 q6 q7 q8; have d3 := (HD6.out.later hSw).c3; go_simp <;> (try with_reducible rfl))
              try simp only [Act.put, List.setIfInBounds_toArray, List.set_cons_zero, List.set_cons_succ]
              refine wpAnyH_take (i := 1) (oi := ?ly2o) (v := ?ly2v) ?ly2h (by kernel_rfl) (by kernel_rfl) (by kernel_rfl) ?ly2q ?ly2y hHeld ?ly2r
              case ly2h => (simp only [List.getElem?_toArray, List.getElem?_cons_succ, List.getElem?_cons_zero]; rfl)
              case ly2q => exact fun _ _ _ h => h
              case ly2y => (refine Or.inl ⟨by first | kernel_rfl | rfl, ?_⟩; intro w hSw; (try dsimp only at hSw); obtain ⟨q0, q1, q2, q3, q4, q5, q6, q7, q8⟩ := R9.later HX6.out hSw; dsimp only at q0 q1 q2 q3 q4 q5 q6 q7 q8; have d3 := (HD6.out.later hSw).c3; go_simp <;> (try with_reducible rfl))
              try simp only [Act.put, List.setIfInBounds_toArray, List.set_cons_zero, List.set_cons_succ]
              refine wpAnyH_take (i := 2) (oi := ?ly3o) (v := ?ly3v) ?ly3h (by kernel_rfl) (by kernel_rfl) (by kernel_rfl) ?ly3q ?ly3y hHeld ?ly3r
              case ly3h => (simp only [List.getElem?_toArray, List.getElem?_cons_succ, List.getElem?_cons_zero]; rfl)
              case ly3q => exact fun _ _ _ h => h
              case ly3y => (refine Or.inl ⟨by first | kernel_rfl | rfl, ?_⟩; intro w hSw; (try dsimp only at hSw); obtain ⟨q0, q1, q2, q3, q4, q5, q6, q7, q8⟩ := R9.later HX6.out hSw; dsimp only at q0 q1 q2 q3 q4 q5 q6 q7 q8; have d3 := (HD6.out.later hSw).c3; go_simp <;> (try with_reducible rfl))
              try simp only [Act.put, List.setIfInBounds_toArray, List.set_cons_zero, List.set_cons_succ]
              refine wpAnyH_take (i := 3) (oi := ?ly4o) (v := ?ly4v) ?ly4h (by kernel_rfl) (by kernel_rfl) (by kernel_rfl) ?ly4q ?ly4y hHeld ?ly4r
              case ly4h => (simp only [List.getElem?_toArray, List.getElem?_cons_succ, List.getElem?_cons_zero]; rfl)
              case ly4q => exact fun _ _ _ h => h
              case ly4y => (refine Or.inl ⟨by first | kernel_rfl | rfl, ?_⟩; intro w hSw; (try dsimp only at hSw); obtain ⟨q0, q1, q2, q3, q4, q5, q6, q7, q8⟩ := R9.later HX6.out hSw; dsimp only at q0 q1 q2 q3 q4 q5 q6 q7 q8; have d3 := (HD6.out.later hSw).c3; go_simp <;> (try with_reducible rfl))
              try simp only [Act.put, List.setIfInBounds_toArray, List.set_cons_zero, List.set_cons_succ]
              refine wpAnyH_take (i := 4) (oi := ?ly5o) (v := ?ly5v) ?ly5h (by kernel_rfl) (by kernel_rfl) (by kernel_rfl) ?ly5q ?ly5y hHeld ?ly5r
              case ly5h => (simp only [List.getElem?_toArray, List.getElem?_cons_succ, List.getElem?_cons_zero]; rfl)
              case ly5q => exact fun _ _ _ h => h
              case ly5y => (refine Or.inl ⟨by first | kernel_rfl | rfl, ?_⟩; intro w hSw; (try dsimp only at hSw); obtain ⟨q0, q1, q2, q3, q4, q5, q6, q7, q8⟩ := R9.later HX6.out hSw; dsimp only at q0 q1 q2 q3 q4 q5 q6 q7 q8; have d3 := (HD6.out.later hSw).c3; go_simp <;> (try with_reducible rfl))
              try simp only [Act.put, List.setIfInBounds_toArray, List.set_cons_zero, List.set_cons_succ]
              refine wpAnyH_take (i := 5) (oi := ?ly6o) (v := ?ly6v) ?ly6h (by kernel_rfl) (by kernel_rfl) (by kernel_rfl) ?ly6q ?ly6y hHeld ?ly6r
              case ly6h => (simp only [List.getElem?_toArray, List.getElem?_cons_succ, List.getElem?_cons_zero]; rfl)
              case ly6q => exact fun _ _ _ h => h
              case ly6y => (refine Or.inl ⟨by first | kernel_rfl | rfl, ?_⟩; intro w hSw; (try dsimp only at hSw); obtain ⟨q0, q1, q2, q3, q4, q5, q6, q7, q8⟩ := R9.later HX6.out hSw; dsimp only at q0 q1 q2 q3 q4 q5 q6 q7 q8; have d3 := (HD6.out.later hSw).c3; go_simp <;> (try with_reducible rfl))
              try simp only [Act.put, List.setIfInBounds_toArray, List.set_cons_zero, List.set_cons_succ]
              refine wpAnyH_take (i := 6) (oi := ?ly7o) (v := ?ly7v) ?ly7h (by kernel_rfl) (by kernel_rfl) (by kernel_rfl) ?ly7q ?ly7y hHeld ?ly7r
              case ly7h => (simp only [List.getElem?_toArray, List.getElem?_cons_succ, List.getElem?_cons_zero]; rfl)
              case ly7q => exact fun _ _ _ h => h
              case ly7y => (refine Or.inl ⟨by first | kernel_rfl | rfl, ?_⟩; intro w hSw; (try dsimp only at hSw); obtain ⟨q0, q1, q2, q3, q4, q5, q6, q7, q8⟩ := R9.later HX6.out hSw; dsimp only at q0 q1 q2 q3 q4 q5 q6 q7 q8; have d3 := (HD6.out.later hSw).c3; go_simp <;> (try with_reducible rfl))
              try simp only [Act.put, List.setIfInBounds_toArray, List.set_cons_zero, List.set_cons_succ]
              refine wpAnyH_take (i := 7) (oi := ?ly8o) (v := ?ly8v) ?ly8h (by kernel_rfl) (by kernel_rfl) (by kernel_rfl) ?ly8q ?ly8y hHeld ?ly8r
              case ly8h => (simp only [List.getElem?_toArray, List.getElem?_cons_succ, List.getElem?_cons_zero]; rfl)
              case ly8q => exact fun _ _ _ h => h
              case ly8y => (refine Or.inl ⟨by first | kernel_rfl | rfl, ?_⟩; intro w hSw; (try dsimp only at hSw); obtain ⟨q0, q1, q2, q3, q4, q5, q6, q7, q8⟩ := R9.later HX6.out hSw; dsimp only at q0 q1 q2 q3 q4 q5 q6 q7 q8; have d3 := (HD6.out.later hSw).c3; go_simp <;> (try with_reducible rfl))
              try simp only [Act.put, List.setIfInBounds_toArray, List.set_cons_zero, List.set_cons_succ]
              refine wpAnyH_done (by kernel_rfl) ?_ _
          
              have hD7 := HD6.out.later hHeld
              have HFIN := Lib.hid (HP.out.added0 HD6a.out (FrF.next HFR6.out (FrF.of hHeld) (fun _ _ e => e)) hD7 HLT6.out (by rw [addS_yes HE.out]; dsimp only; rw [Int.max_eq_left (by omega)]) HNX.out HVN.out)
              clear hD7
          
              go_wp2
              go_ret
              exact ⟨by rw [HE.out]; rfl, HFIN.out.1, HFIN.out.2⟩
      · have HE := Lib.hid (addE_order (S := S) hok (fun k => hq (by have := k.1; dsimp only at this; rw [hy] at this; exact this)))
        have g4 : (zq != y + 1) = true := by simpa using hq
        clear h hp hO hal hN hf hxq hn hlen hl400 hy hyb hok hcov
        go_enter Try.func45, Try.ntmps45
        go_wp2_with (first
          | (go_at_call 41; (with_reducible refine kc.mono ?_); rintro e w1 ⟨rfl, hb1⟩
             have HB1 := Lib.hid (bel_next HAL.out hb1)
             have HX1 := Lib.hid (HBOX.out.later hb1)
             have kk := dknowO_is (HO.out.later HB1.out) HG.out
             clear hb1)
          | (go_at_call 44; (with_reducible refine kk.mono ?_); rintro e w2 ⟨vK, rfl, hJ2⟩
             have hb2 := hJ2.bel
             have hn2 := hJ2.ns
             obtain ⟨aK, cK, rfl⟩ := hn2.slice
             have HB2 := Lib.hid (bel_next HB1.out hb2)
             have HN2 := Lib.hid hn2
             have HX2 := Lib.hid (HX1.out.later hb2)
             obtain ⟨y0, y1, y2, y3, y4, y5, y6, y7, y8⟩ := HX2.out
             dsimp only at y0 y1 y2 y3 y4 y5 y6 y7 y8
             have kv := rcovers_is (.slice aK S.know.length cK) (.slice za zd.length zcc) S.know zd w2 hn2 (Ns.later HN.out HB2.out)
             rw [HCOV.out] at kv
             clear hJ2 hb2 hn2 kk)
          | (go_at_call 26; (with_reducible refine kv.mono ?_); rintro e w3 ⟨rfl, hb3⟩
             have HB3 := Lib.hid (bel_next HB2.out hb3)
             have HX3 := Lib.hid (HX2.out.later hb3)
             have HN3 := Lib.hid (Ns.later HN2.out hb3)
             clear hb3 kv))
        go_wp2_with fail
        refine wp_region_held_drew (S := (fun X : World => Below w3.heap.size w3 X)) (by kernel_rfl) (Below.refl _ _).drew (fun hHeld => ?_)
        refine wpAnyH_take (i := 0) (oi := ?b1o) (v := ?b1v) ?b1h (by kernel_rfl) (by kernel_rfl) (by kernel_rfl) ?b1q ?b1y hHeld ?b1r
        case b1h => (simp only [List.getElem?_toArray, List.getElem?_cons_zero]; rfl)
        case b1q => exact fun _ _ _ h => h
        case b1y => (refine Or.inl ⟨by first | kernel_rfl | rfl, ?_⟩; intro w hSw; (try dsimp only at hSw); obtain ⟨q0, q1, q2, q3, q4, q5, q6, q7, q8⟩ := R9.later HX3.out hSw; dsimp only at q0 q1 q2 q3 q4 q5 q6 q7 q8; go_simp <;> (try with_reducible rfl))
        try simp only [Act.put, List.setIfInBounds_toArray, List.set_cons_zero, List.set_cons_succ]
        refine wpAnyH_take (i := 1) (oi := ?b2o) (v := ?b2v) ?b2h (by kernel_rfl) (by kernel_rfl) (by kernel_rfl) ?b2q ?b2y hHeld ?b2r
        case b2h => (simp only [List.getElem?_toArray, List.getElem?_cons_succ, List.getElem?_cons_zero]; rfl)
        case b2q => exact fun _ _ _ h => h
        case b2y => (refine Or.inl ⟨by first | kernel_rfl | rfl, ?_⟩; intro w hSw; (try dsimp only at hSw); obtain ⟨q0, q1, q2, q3, q4, q5, q6, q7, q8⟩ := R9.later HX3.out hSw; dsimp only at q0 q1 q2 q3 q4 q5 q6 q7 q8; go_simp <;> (try with_reducible rfl))
        try simp only [Act.put, List.setIfInBounds_toArray, List.set_cons_zero, List.set_cons_succ]
        refine wpAnyH_take (i := 2) (oi := ?b3o) (v := ?b3v) ?b3h (by kernel_rfl) (by kernel_rfl) (by kernel_rfl) ?b3q ?b3y hHeld ?b3r
        case b3h => (simp only [List.getElem?_toArray, List.getElem?_cons_succ, List.getElem?_cons_zero]; rfl)
        case b3q => exact fun _ _ _ h => h
        case b3y => (refine Or.inl ⟨by first | kernel_rfl | rfl, ?_⟩; intro w hSw; (try dsimp only at hSw); obtain ⟨q0, q1, q2, q3, q4, q5, q6, q7, q8⟩ := R9.later HX3.out hSw; dsimp only at q0 q1 q2 q3 q4 q5 q6 q7 q8; go_simp <;> (try with_reducible rfl))
        try simp only [Act.put, List.setIfInBounds_toArray, List.set_cons_zero, List.set_cons_succ]
        refine wpAnyH_take (i := 3) (oi := ?b4o) (v := ?b4v) ?b4h (by kernel_rfl) (by kernel_rfl) (by kernel_rfl) ?b4q ?b4y hHeld ?b4r
        case b4h => (simp only [List.getElem?_toArray, List.getElem?_cons_succ, List.getElem?_cons_zero]; rfl)
        case b4q => exact fun _ _ _ h => h
        case b4y => (refine Or.inl ⟨by first | kernel_rfl | rfl, ?_⟩; intro w hSw; (try dsimp only at hSw); obtain ⟨q0, q1, q2, q3, q4, q5, q6, q7, q8⟩ := R9.later HX3.out hSw; dsimp only at q0 q1 q2 q3 q4 q5 q6 q7 q8; go_simp <;> (try with_reducible rfl))
        try simp only [Act.put, List.setIfInBounds_toArray, List.set_cons_zero, List.set_cons_succ]
        refine wpAnyH_take (i := 4) (oi := ?b5o) (v := ?b5v) ?b5h (by kernel_rfl) (by kernel_rfl) (by kernel_rfl) ?b5q ?b5y hHeld ?b5r
        case b5h => (simp only [List.getElem?_toArray, List.getElem?_cons_succ, List.getElem?_cons_zero]; rfl)
        case b5q => exact fun _ _ _ h => h
        case b5y => (refine Or.inl ⟨by first | kernel_rfl | rfl, ?_⟩; intro w hSw; (try dsimp only at hSw); obtain ⟨q0, q1, q2, q3, q4, q5, q6, q7, q8⟩ := R9.later HX3.out hSw; dsimp only at q0 q1 q2 q3 q4 q5 q6 q7 q8; go_simp <;> (try with_reducible rfl))
        try simp only [Act.put, List.setIfInBounds_toArray, List.set_cons_zero, List.set_cons_succ]
        refine wpAnyH_take (i := 5) (oi := ?b6o) (v := ?b6v) ?b6h (by kernel_rfl) (by kernel_rfl) (by kernel_rfl) ?b6q ?b6y hHeld ?b6r
        case b6h => (simp only [List.getElem?_toArray, List.getElem?_cons_succ, List.getElem?_cons_zero]; rfl)
        case b6q => exact fun _ _ _ h => h
        case b6y => (refine Or.inl ⟨by first | kernel_rfl | rfl, ?_⟩; intro w hSw; (try dsimp only at hSw); obtain ⟨q0, q1, q2, q3, q4, q5, q6, q7, q8⟩ := R9.later HX3.out hSw; dsimp only at q0 q1 q2 q3 q4 q5 q6 q7 q8; go_simp <;> (try with_reducible rfl))
        try simp only [Act.put, List.setIfInBounds_toArray, List.set_cons_zero, List.set_cons_succ]
        refine wpAnyH_take (i := 6) (oi := ?b7o) (v := ?b7v) ?b7h (by kernel_rfl) (by kernel_rfl) (by kernel_rfl) ?b7q ?b7y hHeld ?b7r
        case b7h => (simp only [List.getElem?_toArray, List.getElem?_cons_succ, List.getElem?_cons_zero]; rfl)
        case b7q => exact fun _ _ _ h => h
        case b7y => (refine Or.inl ⟨by first | kernel_rfl | rfl, ?_⟩; intro w hSw; (try dsimp only at hSw); obtain ⟨q0, q1, q2, q3, q4, q5, q6, q7, q8⟩ := R9.later HX3.out hSw; dsimp only at q0 q1 q2 q3 q4 q5 q6 q7 q8; go_simp <;> (try with_reducible rfl))
        try simp only [Act.put, List.setIfInBounds_toArray, List.set_cons_zero, List.set_cons_succ]
        refine wpAnyH_take (i := 7) (oi := ?b8o) (v := ?b8v) ?b8h (by kernel_rfl) (by kernel_rfl) (by kernel_rfl) ?b8q ?b8y hHeld ?b8r
        case b8h => (simp only [List.getElem?_toArray, List.getElem?_cons_succ, List.getElem?_cons_zero]; rfl)
        case b8q => exact fun _ _ _ h => h
        case b8y => (refine Or.inl ⟨by first | kernel_rfl | rfl, ?_⟩; intro w hSw; (try dsimp only at hSw); obtain ⟨q0, q1, q2, q3, q4, q5, q6, q7, q8⟩ := R9.later HX3.out hSw; dsimp only at q0 q1 q2 q3 q4 q5 q6 q7 q8; go_simp <;> (try with_reducible rfl))
        try simp only [Act.put, List.setIfInBounds_toArray, List.set_cons_zero, List.set_cons_succ]
        refine wpAnyH_take (i := 8) (oi := ?b9o) (v := ?b9v) ?b9h (by kernel_rfl) (by kernel_rfl) (by kernel_rfl) ?b9q ?b9y hHeld ?b9r
        case b9h => (simp only [List.getElem?_toArray, List.getElem?_cons_succ, List.getElem?_cons_zero]; rfl)
        case b9q => exact fun _ _ _ h => h
        case b9y => (refine Or.inl ⟨by first | kernel_rfl | rfl, ?_⟩; intro w hSw; (try dsimp only at hSw); obtain ⟨q0, q1, q2, q3, q4, q5, q6, q7, q8⟩ := R9.later HX3.out hSw; dsimp only at q0 q1 q2 q3 q4 q5 q6 q7 q8; go_simp <;> (try with_reducible rfl))
        try simp only [Act.put, List.setIfInBounds_toArray, List.set_cons_zero, List.set_cons_succ]
        refine wpAnyH_take (i := 9) (oi := ?b10o) (v := ?b10v) ?b10h (by kernel_rfl) (by kernel_rfl) (by kernel_rfl) ?b10q ?b10y hHeld ?b10r
        case b10h => (simp only [List.getElem?_toArray, List.getElem?_cons_succ, List.getElem?_cons_zero]; rfl)
        case b10q => exact fun _ _ _ h => h
        case b10y => (refine Or.inl ⟨by first | kernel_rfl | rfl, ?_⟩; intro w hSw; (try dsimp only at hSw); obtain ⟨q0, q1, q2, q3, q4, q5, q6, q7, q8⟩ := R9.later HX3.out hSw; dsimp only at q0 q1 q2 q3 q4 q5 q6 q7 q8; go_simp <;> (try with_reducible rfl))
        try simp only [Act.put, List.setIfInBounds_toArray, List.set_cons_zero, List.set_cons_succ]
        refine wpAnyH_ready (rs := [10]) (by kernel_rfl) (by simp) ?_
        refine (AllReadyH.cons rfl (fun K hK => ?_) AllReadyH.nil)
        go_simp
        (go_at_call 27; (with_reducible refine (rat_is (.slice aK S.know.length cK) S.know zst _ (Ns.later HN3.out hHeld)).mono ?_); rw [HY.out]; rintro e w4 ⟨rfl, hb4⟩)
        refine hK.out _ _ (bel_next hHeld hb4) (fun hHeld => ?_)
        clear hK K
        try simp only [Act.put, List.setIfInBounds_toArray, List.set_cons_zero, List.set_cons_succ]
        refine wpAnyH_take (i := 11) (oi := ?b11o) (v := ?b11v) ?b11h (by kernel_rfl) (by kernel_rfl) (by kernel_rfl) ?b11q ?b11y hHeld ?b11r
        case b11h => (simp only [List.getElem?_toArray, List.getElem?_cons_succ, List.getElem?_cons_zero]; rfl)
        case b11q => exact fun _ _ _ h => h
        case b11y => (refine Or.inl ⟨by first | kernel_rfl | rfl, ?_⟩; intro w hSw; (try dsimp only at hSw); obtain ⟨q0, q1, q2, q3, q4, q5, q6, q7, q8⟩ := R9.later HX3.out hSw; dsimp only at q0 q1 q2 q3 q4 q5 q6 q7 q8; go_simp <;> (try with_reducible rfl))
        try simp only [Act.put, List.setIfInBounds_toArray, List.set_cons_zero, List.set_cons_succ]
        refine wpAnyH_take (i := 12) (oi := ?b12o) (v := ?b12v) ?b12h (by kernel_rfl) (by kernel_rfl) (by kernel_rfl) ?b12q ?b12y hHeld ?b12r
        case b12h => (simp only [List.getElem?_toArray, List.getElem?_cons_succ, List.getElem?_cons_zero]; rfl)
        case b12q => exact fun _ _ _ h => h
        case b12y => (refine Or.inl ⟨by first | kernel_rfl | rfl, ?_⟩; intro w hSw; (try dsimp only at hSw); obtain ⟨q0, q1, q2, q3, q4, q5, q6, q7, q8⟩ := R9.later HX3.out hSw; dsimp only at q0 q1 q2 q3 q4 q5 q6 q7 q8; go_simp <;> (try with_reducible rfl))
        try simp only [Act.put, List.setIfInBounds_toArray, List.set_cons_zero, List.set_cons_succ]
        refine wpAnyH_take (i := 13) (oi := ?b13o) (v := ?b13v) ?b13h (by kernel_rfl) (by kernel_rfl) (by kernel_rfl) ?b13q ?b13y hHeld ?b13r
        case b13h => (simp only [List.getElem?_toArray, List.getElem?_cons_succ, List.getElem?_cons_zero]; rfl)
        case b13q => exact fun _ _ _ h => h
        case b13y => (refine Or.inl ⟨by first | kernel_rfl | rfl, ?_⟩; intro w hSw; (try dsimp only at hSw); obtain ⟨q0, q1, q2, q3, q4, q5, q6, q7, q8⟩ := R9.later HX3.out hSw; dsimp only at q0 q1 q2 q3 q4 q5 q6 q7 q8; go_simp <;> (try with_reducible rfl))
        try simp only [Act.put, List.setIfInBounds_toArray, List.set_cons_zero, List.set_cons_succ]
        refine wpAnyH_done (by kernel_rfl) ?_ _
        
        go_wp2
        go_ret
        exact ⟨by rw [HE.out]; rfl, HKEPT.out _ HE.out (by decide) _ (bel_next HB3.out hHeld)⟩
  · have hok2 : Rec.ok ⟨zk, zss, zt, zv, ztier, ⟨zc, zst, zq⟩, zd⟩ = false := by simpa using hok
    have he1 : Rec.err ⟨zk, zss, zt, zv, ztier, ⟨zc, zst, zq⟩, zd⟩ = 1 := by unfold Rec.err; rw [hok2]; rfl
    rw [he1] at kc
    have HE := Lib.hid (addE_arg (S := S) hok2)
    clear h hp hO hal hN hf hxq hn hlen hl400 hok hok2 he1
    go_enter Try.func45, Try.ntmps45
    go_wp2_with (go_at_call 41; (with_reducible refine kc.mono ?_); rintro e w1 ⟨rfl, hb1⟩; (have HB1 := Lib.hid (bel_next HAL.out hb1)); clear hb1)
    go_ret
    exact ⟨by rw [HE.out]; rfl, HKEPT.out _ HE.out (by decide) _ HB1.out⟩
end Go.Proofs.Ythifmfgnblecbaa.Og

/- The document's collection as it lies in memory; New, has. -/
import Derived.Test.YtolmhlfegllfoaaHiNodes
set_option maxRecDepth 20000
set_option linter.unusedSimpArgs false
set_option linter.unusedVariables false
namespace Go.Proofs.Ytolmhlfegllfoaa.Qu.Hi
open Go.RowKit Go.Maps Go.Proofs.Ytolmhlfegllfoaa.Vi Go.Proofs.Ytolmhlfegllfoaa.Mk

structure DoAt (w : World) (B d : Nat) (room : Int) (L : List Hk) (a : Option Addr) (c : Nat) : Prop where
  obj : w.heap[d]? = some (.cells #[.int .i64 room, .slice a L.length c] 51 (0, 0))
  row : HRow 68 w B (.slice a L.length c) L
  lo : B ≤ d
  len : L.length ≤ 600
theorem DoAt.lt {w : World} {B d : Nat} {room : Int} {L : List Hk} {a : Option Addr} {c : Nat} (h : DoAt w B d room L a c) : d < w.heap.size := (Array.getElem?_eq_some_iff.1 h.obj).1
theorem DoAt.c0 {w : World} {B d : Nat} {room : Int} {L : List Hk} {a : Option Addr} {c : Nat} (h : DoAt w B d room L a c) : w.cell? ⟨d, 0, none⟩ = some (.int .i64 room) := by
  unfold World.cell?; dsimp only; rw [h.obj]; rfl
theorem DoAt.c1 {w : World} {B d : Nat} {room : Int} {L : List Hk} {a : Option Addr} {c : Nat} (h : DoAt w B d room L a c) : w.cell? ⟨d, 1, none⟩ = some (.slice a L.length c) := by
  unfold World.cell?; dsimp only; rw [h.obj]; rfl
theorem DoAt.frozen {w : World} {B d : Nat} {room : Int} {L : List Hk} {a : Option Addr} {c : Nat} (h : DoAt w B d room L a c) (o : Nat) : w.frozen? ⟨d, o, none⟩ = false := by
  unfold World.frozen?; simp [h.obj]
theorem DoAt.other {w w' : World} {B d : Nat} {room : Int} {L : List Hk} {a : Option Addr} {c : Nat} (h : DoAt w B d room L a c) (k : ∀ (g : Nat) (cur : Array Value) (T : TypeId), w.heap[g]? = some (.cells cur T (0, 0)) → w'.heap[g]? = w.heap[g]?) : DoAt w' B d room L a c :=
  ⟨(k _ _ _ h.obj).trans h.obj, h.row.other fun g cur e => k g cur _ e, h.lo, h.len⟩
theorem DoAt.later {w w' : World} {B d : Nat} {room : Int} {L : List Hk} {a : Option Addr} {c : Nat} (h : DoAt w B d room L a c) (k : Below w.heap.size w w') : DoAt w' B d room L a c := h.other fun g cur T e => k.block g (Array.getElem?_eq_some_iff.1 e).1
/-- A method of the program's has run: it turned its map alone. -/
theorem DoAt.grown {w w' : World} {B B2 b d : Nat} {mv : Option Nat} {room r2 : Int} {L L2 : List Hk} {a : Option Addr} {c : Nat} (h : DoAt w B d room L a c) (hA : HiAt w B2 b mv r2 L2) (k : w.grownBy w' mv) : DoAt w' B d room L a c :=
  h.other fun g cur T e => k.block g (Array.getElem?_eq_some_iff.1 e).1 fun e2 => by
    subst e2
    obtain ⟨es, cl, e3⟩ := (hA.some_ g rfl).2.heap
    rw [e] at e3
    injection e3 with e3
    cases e3
def dmods (w : World) (B d g : Nat) : Prop := g = d ∨ B ≤ g ∧ ∃ cur : Array Value, w.heap[g]? = some (.cells cur 68 (0, 0))
/-- What a method of the document's may turn. -/
structure FrD (w w' : World) (B d : Nat) : Prop where
  os : w'.os = w.os
  tape : w'.tape = w.tape
  output : w'.output = w.output
  size : w.heap.size ≤ w'.heap.size
  block : ∀ g, g < w.heap.size → ¬ dmods w B d g → w'.heap[g]? = w.heap[g]?
theorem FrD.of {w w' : World} (h : Below w.heap.size w w') (B d : Nat) : FrD w w' B d := ⟨h.os, h.tape, h.output, h.size, fun g hg _ => h.block g hg⟩
theorem FrD.trans {a b c : World} {B d : Nat} (h : FrD a b B d) (k : FrD b c B d) : FrD a c B d :=
  ⟨k.os.trans h.os, k.tape.trans h.tape, k.output.trans h.output, Nat.le_trans h.size k.size, fun g hg hn => by
    have e := h.block g hg hn
    refine (k.block g (Nat.lt_of_lt_of_le hg h.size) fun hm => hn ?_).trans e
    rcases hm with hm | ⟨hB, cur, hm⟩
    · exact Or.inl hm
    · exact Or.inr ⟨hB, cur, e.symm.trans hm⟩⟩
theorem FrD.next {a b c : World} {B d : Nat} (h : FrD a b B d) (k : Below b.heap.size b c) : FrD a c B d := h.trans (FrD.of k B d)
theorem FrD.bel {w X X' : World} {B d : Nat} (k : FrD X X' B d) (h : Below w.heap.size w X) (hB : w.heap.size ≤ B) (hd : B ≤ d) : Below w.heap.size w X' :=
  ⟨k.os.trans h.os, k.tape.trans h.tape, k.output.trans h.output, Nat.le_trans h.size k.size, fun i hi => (k.block i (Nat.lt_of_lt_of_le hi h.size) fun hm => by
    rcases hm with hm | ⟨hm, -⟩ <;> omega).trans (h.block i hi)⟩
theorem HiAt.frd {w w' : World} {B B2 b d : Nat} {mv : Option Nat} {room r2 : Int} {L L2 : List Hk} {a : Option Addr} {c : Nat} (h : HiAt w B b mv room L) (hD : DoAt w B2 d r2 L2 a c) (k : FrD w w' B2 d) : HiAt w' B b mv room L := by
  refine h.other (k.block b h.lt fun hm => ?_) fun m e => ?_
  · rcases hm with rfl | ⟨-, cur, hm⟩
    · have := h.obj
      rw [hD.obj] at this
      injection this with this
      injection this with _ this
      exact absurd this (by decide)
    · rw [h.obj] at hm
      injection hm with hm
      injection hm with _ hm
      exact absurd hm (by decide)
  · subst e
    obtain ⟨es, cl, e2⟩ := (h.some_ m rfl).2.heap
    refine k.block m (Array.getElem?_eq_some_iff.1 e2).1 fun hm => ?_
    rcases hm with rfl | ⟨-, cur, hm⟩
    · rw [hD.obj] at e2
      injection e2 with e2
      cases e2
    · rw [e2] at hm
      injection hm with hm
      cases hm
def RNewDone (n : Int) (w : World) (e : Ending) (w' : World) : Prop := ∃ d, e = .returned (.pointer (some ⟨d, 0, none⟩)) ∧ DoAt w' w.heap.size d (capH n) [] none 0 ∧ Below w.heap.size w w'
set_option maxHeartbeats 2000000 in
theorem rnew_is (n : Int) (w : World) : Calls Try.prog 10 #[.int .i64 n] w (RNewDone n w) := by
  have hend : ∀ c : Int, capH n = c → DoAt (w.alloc (.cells #[.int .i64 c, .slice none 0 0] 51)) w.heap.size w.heap.size (capH n) [] none 0 ∧ Below w.heap.size w (w.alloc (.cells #[.int .i64 c, .slice none 0 0] 51)) := fun c hc => by
    subst hc
    exact ⟨⟨heap_alloc_new _ _, HRow.nil _ _ _, Nat.le_refl _, by simp⟩, (Below.refl _ _).alloc (Nat.le_refl _) _⟩
  by_cases h0 : n < 0
  · have HE := Lib.hid (hend 0 (by unfold capH; omega))
    clear hend
    go_enter Try.func10, Try.ntmps10
    go_wp2
    go_ret
    exact ⟨_, rfl, HE.out.1, HE.out.2⟩
  · by_cases h6 : 600 < n
    · have HE := Lib.hid (hend 600 (by unfold capH; omega))
      clear hend
      go_enter Try.func10, Try.ntmps10
      go_wp2
      go_ret
      exact ⟨_, rfl, HE.out.1, HE.out.2⟩
    · have HE := Lib.hid (hend n (by unfold capH; omega))
      clear hend
      go_enter Try.func10, Try.ntmps10
      go_wp2
      go_ret
      exact ⟨_, rfl, HE.out.1, HE.out.2⟩
theorem has_yes {L : List Hk} {x : Hk} {k : Nat} (h : k < L.length) (e : L[k] = x) : hasB L x = true := by unfold hasB; simp; rw [← e]; exact List.getElem_mem h
theorem has_no {L : List Hk} {x : Hk} (h : ∀ j (hj : j < L.length), L[j] ≠ x) : hasB L x = false := by
  unfold hasB
  simp only [decide_eq_false_iff_not]
  intro hm
  obtain ⟨j, hj, e⟩ := List.getElem_of_mem hm
  exact h j hj e
structure HaJ (w wr : World) (L : List Hk) (x : Hk) (k : Nat) : Prop where
  bel1 : Below (w.heap.size + 1) (w.alloc (.cells #[.string x.p.s, .int .i64 x.p.t, .int .i64 x.p.v, .int .i64 x.p.st.c, .int .i64 x.p.st.s, .int .i64 x.p.st.q] 31)) wr
  no : ∀ j (hj : j < L.length), j < k → L[j] ≠ x
theorem HaJ.bel {w wr : World} {L : List Hk} {x : Hk} {k : Nat} (h : HaJ w wr L x k) : Below w.heap.size w wr := ((Below.refl w.heap.size w).alloc (Nat.le_refl _) _).trans (h.bel1.mono (by omega))
theorem HaJ.pt {w wr : World} {L : List Hk} {x : Hk} {k : Nat} (h : HaJ w wr L x k) : PtAt wr w.heap.size x.p := (PtAt.new w x.p).below h.bel1 (by omega)
set_option maxHeartbeats 4000000 in
theorem rhas_is {w : World} {B d : Nat} {room : Int} {L : List Hk} {a : Option Addr} {c : Nat} (h : DoAt w B d room L a c) (x : Hk) : Calls Try.prog 34 #[.pointer (some ⟨d, 0, none⟩), ptV x.p, .int .i64 x.n] w fun e w' => e = .returned (.bool (hasB L x)) ∧ Below w.heap.size w w' := by
  obtain ⟨z, hz⟩ : ∃ z, hasB L x = z := ⟨_, rfl⟩
  rw [hz]
  have HZ := Lib.hid hz
  have H := Lib.hid h
  obtain ⟨n, hn⟩ : ∃ n, L.length = n := ⟨_, rfl⟩
  have hn6 : n ≤ 600 := by rw [← hn]; exact h.len
  have HN := Lib.hid hn
  clear h hz hn
  unfold ptV
  go_enter Try.func34, Try.ntmps34
  go_wp2
  go_loopw [7] (fun i wr => ∃ k : Nat, k ≤ n ∧ i = .int .i64 (k : Int) ∧ Hid (HaJ w wr L x k)) (fun i _ => n - (intOf i).toNat)
  case atStart => exact ⟨0, by omega, rfl, Lib.hid ⟨Below.refl _ _, fun j _ hj => absurd hj (Nat.not_lt_zero _)⟩⟩
  case round =>
    obtain ⟨k, hk, rfl, HJ⟩ := hrel
    obtain ⟨w3, hw3⟩ : ∃ y, y = wr := ⟨_, rfl⟩
    subst hw3
    have h3 := H.out.later HJ.out.bel
    have c1 := h3.c1
    rw [HN.out] at c1
    by_cases hlt : k < n
    · have hlt2 : (k : Int) < (n : Int) := by omega
      have hkL : k < L.length := by rw [HN.out]; exact hlt
      obtain ⟨g, rfl, -, -, -, -, hc⟩ := h3.row.cell (by omega)
      obtain ⟨y, hy⟩ : ∃ y, L[k] = y := ⟨_, rfl⟩
      have hy7 := hc k hkL
      rw [hy] at hy7
      obtain ⟨y0, y1, y2, y3, y4, y5, y6⟩ := hy7
      obtain ⟨x0, x1, x2, x3, x4, x5⟩ := HJ.out.pt
      have HY := Lib.hid hy
      have hq := fun W => eql_run6 y.p x.p W
      unfold ptV at hq
      have HNX := Lib.hid (show y ≠ x → ∀ q, HaJ w (w3.drewN q) L x (k + 1) from fun hne q => ⟨below_drewN HJ.out.bel1 q, fun j hj h1 => by
        by_cases e : j = k
        · subst e; rw [HY.out]; exact hne
        · exact HJ.out.no j hj (by omega)⟩)
      clear hc hy h3
      by_cases hp : y.p = x.p
      · rw [Pt.same_iff.2 hp] at hq
        by_cases hn : y.n = x.n
        · have hnq : (y.n == x.n) = true := by simpa using hn
          have HE := Lib.hid (has_yes (L := L) (x := x) hkL (HY.out.trans (Hk.ext' hp hn)))
          clear hp hn
          go_wp2_with fail
          go_quiet (fail)
          go_wp2
          go_ret
          exact ⟨by rw [← HZ.out, HE.out]; rfl, below_drewN HJ.out.bel _⟩
        · have hnq : (y.n == x.n) = false := by simpa using hn
          have HJ4 := Lib.hid (HNX.out fun e => hn (by rw [e]))
          clear hp hn
          go_wp2_with fail
          go_quiet (fail)
          go_wp2
          go_roundw
          case rel => exact ⟨k + 1, by omega, by go_num, Lib.hid (HJ4.out _)⟩
          case measure => simp [intOf]; omega
      · have hsf : y.p.same x.p = false := by
          cases e : y.p.same x.p with
          | false => rfl
          | true => exact absurd (Pt.same_iff.1 e) hp
        rw [hsf] at hq
        have HJ4 := Lib.hid (HNX.out fun e => hp (by rw [e]))
        clear hp hsf
        go_wp2_with fail
        go_quiet (fail)
        go_wp2
        go_roundw
        case rel => exact ⟨k + 1, by omega, by go_num, Lib.hid (HJ4.out _)⟩
        case measure => simp [intOf]; omega
    · obtain rfl : k = n := by omega
      have hlt2 : ¬ (k : Int) < (k : Int) := by omega
      have HE := Lib.hid (has_no (L := L) (x := x) fun j hj => HJ.out.no j hj (by rw [← HN.out]; exact hj))
      clear hlt h3
      go_wp2
      go_ret
      exact ⟨by rw [← HZ.out, HE.out]; rfl, HJ.out.bel⟩
end Go.Proofs.Ytolmhlfegllfoaa.Qu.Hi

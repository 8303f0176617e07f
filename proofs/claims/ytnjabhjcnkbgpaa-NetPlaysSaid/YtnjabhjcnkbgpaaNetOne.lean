/- A network that a law has made; the chapter's examples. -/
import Derived.Test.YtnjabhjcnkbgpaaNetTake
import Derived.Test.YtnjabhjcnkbgpaaNetTick
set_option maxRecDepth 20000
set_option linter.unusedSimpArgs false
set_option linter.unusedVariables false
namespace Go.Proofs.Ytnjabhjcnkbgpaa
open Go.RowKit

/-- A network that was made behind w0. -/
def One (w0 w : World) (b : Nat) (S : NS) : Prop := ∃ V, NAt w w0.heap.size b V S ∧ Below w0.heap.size w0 w
/-- What is neither a network nor messages stands. -/
def Kp (w w' : World) : Prop := ∀ (k : Nat) (cs : Array Value) (T : TypeId) (f : Nat × Nat), w.heap[k]? = some (.cells cs T f) → T ≠ 54 → T ≠ 34 → w'.heap[k]? = w.heap[k]?
theorem Kp.refl (w : World) : Kp w w := fun _ _ _ _ _ _ _ => rfl
theorem Kp.of_below {w w' : World} (h : Below w.heap.size w w') : Kp w w' := fun k _ _ _ e _ _ => h.block k (Array.getElem?_eq_some_iff.1 e).1
theorem Kp.trans {a b c : World} (h : Kp a b) (k : Kp b c) : Kp a c := fun i cs T f e h1 h2 => (k i cs T f ((h i cs T f e h1 h2).trans e) h1 h2).trans (h i cs T f e h1 h2)
theorem Kp.row {w w' : World} (h : Kp w w') {B sz n : Nat} {T : TypeId} {v : Value} {xs : List Value} (hr : w.ownsRow B T sz v n xs) (h1 : T ≠ 54) (h2 : T ≠ 34) : w'.ownsRow B T sz v n xs :=
  row_of hr fun k hk => by
    obtain ⟨cur, e⟩ := row_heap hr hk
    exact h k cur T _ e h1 h2
def ODone (w0 : World) (b : Nat) (S' : NS) (v : Value) (w : World) (e : Ending) (w' : World) : Prop := e = .returned v ∧ One w0 w' b S' ∧ Kp w w' ∧ w.heap.size ≤ w'.heap.size
section
variable {w0 w : World} {b : Nat} {S : NS}
theorem One.later {w' : World} (h : One w0 w b S) (k : Below w.heap.size w w') : One w0 w' b S := by
  obtain ⟨V, h1, h2⟩ := h
  exact ⟨V, h1.later k, bel_next h2 k⟩
theorem One.bel (h : One w0 w b S) : Below w0.heap.size w0 w := by obtain ⟨_, _, h⟩ := h; exact h
theorem One.made (w : World) : One w (w.alloc (.cells (ncells (.slice none 0 0) 0 fun _ => false) 54)) w.heap.size NS.new := ⟨_, nat_new w _ (Nat.le_refl _), bel_al _ _⟩
/-- A row of the law's own has grown. -/
theorem One.grown {w' : World} (h : One w0 w b S) {v : Value} (hg : w.grownBy w' v.ownBlock) {B sz n : Nat} {T : TypeId} {xs : List Value} (hr : w.ownsRow B T sz v n xs) (h1 : T ≠ 54) (h2 : T ≠ 34) (hB : w0.heap.size ≤ B) : One w0 w' b S := by
  obtain ⟨V, hN, hb⟩ := h
  have hk : ∀ k, nmods b V k → w'.heap[k]? = w.heap[k]? := fun k hm => hg.block k (hN.mods hm).2 fun e => by
    obtain ⟨cur, e2⟩ := row_heap hr e.symm
    exact hN.not e2 h1 h2 hm
  exact ⟨V, ⟨(hk b (Or.inl rfl)).trans hN.hb, row_of hN.row fun k e => hk k (Or.inr e), hN.base, hN.len, hN.ends⟩, hb.grown hg hb.size fun q hq => Nat.le_trans hB (hr.lt q hq).1⟩
/-- A block of the law's own, which is no network's, has turned. -/
theorem One.aside {w' : World} (h : One w0 w b S) (r : Nat) (hr : w0.heap.size ≤ r) {cs : Array Value} {T : TypeId} {f : Nat × Nat} (hc : w.heap[r]? = some (.cells cs T f)) (h1 : T ≠ 54) (h2 : T ≠ 34) (ho : ∀ k, k ≠ r → w'.heap[k]? = w.heap[k]?) (e1 : w'.os = w.os) (e2 : w'.tape = w.tape) (e3 : w'.output = w.output) (e4 : w'.heap.size = w.heap.size) : One w0 w' b S := by
  obtain ⟨V, hN, hb⟩ := h
  have hk : ∀ k, nmods b V k → w'.heap[k]? = w.heap[k]? := fun k hm => ho k fun e => hN.not hc h1 h2 (by rw [← e]; exact hm)
  exact ⟨V, ⟨(hk b (Or.inl rfl)).trans hN.hb, row_of hN.row fun k e => hk k (Or.inr e), hN.base, hN.len, hN.ends⟩, ⟨e1.trans hb.os, e2.trans hb.tape, e3.trans hb.output, by rw [e4]; exact hb.size, fun k hk => (ho k (by omega)).trans (hb.block k hk)⟩⟩
theorem one_done {f : FuncId} {args : Array Value} {S' : NS} {v : Value} (h : One w0 w b S) (hc : ∀ V, NAt w w0.heap.size b V S → Calls Try.prog f args w (NDone w0.heap.size b V S' v w)) : Calls Try.prog f args w (ODone w0 b S' v w) := by
  obtain ⟨V, hN, hb⟩ := h
  refine (hc V hN).mono ?_
  rintro e w' ⟨V', rfl, hw⟩
  exact ⟨rfl, ⟨V', hw.at_, hb.trans (hw.below hN (Nat.le_refl _))⟩, fun k cs T f e h1 h2 => hw.frm.block k (Array.getElem?_eq_some_iff.1 e).1 (hN.not e h1 h2), hw.frm.size⟩
theorem send_one (f t : Int) (s : ByteArray) (hs : s.size ≤ 100000) (h : One w0 w b S) : Calls Try.prog 27 #[.pointer (some ⟨b, 0, none⟩), .int .i64 f, .int .i64 t, .string s] w (ODone w0 b (sendS S f t s) (.tuple #[.int .i64 (sendN S f t s), .bool (!refuse S f t s)]) w) :=
  one_done h fun _ hN => send_is f t s hs hN
theorem part_one (x y : Int) (h : One w0 w b S) : Calls Try.prog 17 #[.pointer (some ⟨b, 0, none⟩), .int .i64 x, .int .i64 y] w (ODone w0 b (setS S x y true) (.bool (!sameAs S x y true)) w) := one_done h fun _ hN => part_is x y hN
theorem join_one (x y : Int) (h : One w0 w b S) : Calls Try.prog 19 #[.pointer (some ⟨b, 0, none⟩), .int .i64 x, .int .i64 y] w (ODone w0 b (setS S x y false) (.bool (!sameAs S x y false)) w) := one_done h fun _ hN => join_is x y hN
theorem heal_one (h : One w0 w b S) : Calls Try.prog 21 #[.pointer (some ⟨b, 0, none⟩)] w (ODone w0 b (healS S) (.tuple #[]) w) := one_done h fun _ hN => heal_is hN
theorem tick_one (h : One w0 w b S) : Calls Try.prog 22 #[.pointer (some ⟨b, 0, none⟩)] w (ODone w0 b (tickS S) (.tuple #[]) w) := one_done h fun _ hN => tick_is hN
theorem drop_one (x : Int) (hx : -9223372036854775808 ≤ x ∧ x ≤ 9223372036854775807) (h : One w0 w b S) : Calls Try.prog 13 #[.pointer (some ⟨b, 0, none⟩), .int .i64 x] w (ODone w0 b (dropS S x) (.bool (!(S.mail.length == 0))) w) := one_done h fun _ hN => drop_is x hx hN
theorem double_one (x : Int) (hx : -9223372036854775808 ≤ x ∧ x ≤ 9223372036854775807) (h : One w0 w b S) : Calls Try.prog 15 #[.pointer (some ⟨b, 0, none⟩), .int .i64 x] w (ODone w0 b (doubleS S x) (.bool (doubleB S)) w) := one_done h fun _ hN => double_is x hx hN
theorem lose_one (x : Int) (h : One w0 w b S) : Calls Try.prog 24 #[.pointer (some ⟨b, 0, none⟩), .int .i64 x] w (ODone w0 b (loseS S x) (.int .i64 (loseN S x)) w) := one_done h fun _ hN => lose_is x hN
theorem take_i {S : NS} {x : Int} : ((readyL S).length = 0 ∧ takeI S x = none) ∨ ∃ i m, takeI S x = some i ∧ S.mail[i]? = some m ∧ takeM S x = some m ∧ takeS S x = removeS S i := by
  by_cases h0 : (readyL S).length = 0
  · exact Or.inl ⟨h0, by unfold takeI; rw [if_pos h0]⟩
  · right
    have hl := ready_len S
    have hp := (pick_lt x (show 0 < (openP S).length by omega)).2.2.2
    obtain ⟨i, hi⟩ : ∃ i, (openP S)[pickN x (openP S).length] = i := ⟨_, rfl⟩
    have hil : i < S.mail.length := by rw [← hi]; exact (whr_lt _ (List.getElem_mem hp)).2
    have e : takeI S x = some i := by unfold takeI; rw [if_neg h0, List.getElem?_eq_getElem hp, hi]
    exact ⟨i, S.mail[i], e, List.getElem?_eq_getElem hil, by unfold takeM; rw [e]; exact List.getElem?_eq_getElem hil, by unfold takeS; rw [e]⟩
theorem take_one (x : Int) (hx : -9223372036854775808 ≤ x ∧ x ≤ 9223372036854775807) (h : One w0 w b S) : Calls Try.prog 11 #[.pointer (some ⟨b, 0, none⟩), .int .i64 x] w (ODone w0 b (takeS S x) (.tuple #[mailV (takeM S x), .bool (takeM S x).isSome]) w) := by
  rcases take_i (S := S) (x := x) with ⟨h0, e⟩ | ⟨i, m, e, hm, e1, e2⟩
  · have e1 : takeM S x = none := by unfold takeM; rw [e]
    have e2 : takeS S x = S := by unfold takeS; rw [e]
    rw [e1, e2]
    exact one_done h fun _ hN => take_none x hN h0
  · rw [e1, e2]
    exact one_done h fun _ hN => take_some x i m hx hN e hm
theorem one_still {f : FuncId} {args : Array Value} {v : Value} (h : One w0 w b S) (hc : ∀ V, NAt w w0.heap.size b V S → Calls Try.prog f args w (fun e w' => e = .returned v ∧ w = w')) : Calls Try.prog f args w (fun e w' => e = .returned v ∧ w = w') := by
  obtain ⟨V, hN, hb⟩ := h
  exact hc V hN
theorem waits_one (h : One w0 w b S) : Calls Try.prog 31 #[.pointer (some ⟨b, 0, none⟩)] w fun e w' => e = .returned (.int .i64 (S.mail.length : Int)) ∧ w = w' := one_still h fun _ hN => waits_is hN
theorem oldest_one (h : One w0 w b S) : Calls Try.prog 32 #[.pointer (some ⟨b, 0, none⟩)] w fun e w' => e = .returned (.int .i64 (oldestS S)) ∧ w = w' := one_still h fun _ hN => oldest_is hN
theorem parted_one (x y : Int) (h : One w0 w b S) : Calls Try.prog 34 #[.pointer (some ⟨b, 0, none⟩), .int .i64 x, .int .i64 y] w fun e w' => e = .returned (.bool (partedB S x y)) ∧ w = w' := one_still h fun _ hN => parted_is x y hN
theorem ready_one (h : One w0 w b S) : Calls Try.prog 29 #[.pointer (some ⟨b, 0, none⟩)] w fun e w' => ∃ v, e = .returned v ∧ MRow w' w.heap.size v (readyL S) ∧ Below w.heap.size w w' := by
  obtain ⟨V, hN, hb⟩ := h
  exact ready_is hN
theorem One.len (h : One w0 w b S) : S.mail.length ≤ 2000 := by obtain ⟨V, hN, _⟩ := h; exact hN.len
theorem One.ends (h : One w0 w b S) : ∀ m ∈ S.mail, endB m.f = true ∧ endB m.t = true ∧ m.s.size ≤ 80000 := by obtain ⟨V, hN, _⟩ := h; exact hN.ends
end
/-- A network, and a block of the law's own beside it. -/
def Held (w0 w : World) (b : Nat) (S : NS) (r : Nat) (o : Obj) : Prop := ∃ V, NAt w w0.heap.size b V S ∧ Below w0.heap.size w0 w ∧ ¬ nmods b V r ∧ w.heap[r]? = some o
theorem Held.one {w0 w : World} {b : Nat} {S : NS} {r : Nat} {o : Obj} (h : Held w0 w b S r o) : One w0 w b S := by obtain ⟨V, h1, h2, _⟩ := h; exact ⟨V, h1, h2⟩
theorem Held.at_ {w0 w : World} {b : Nat} {S : NS} {r : Nat} {o : Obj} (h : Held w0 w b S r o) : w.heap[r]? = some o := by obtain ⟨V, _, _, _, h⟩ := h; exact h
theorem One.held {w0 w : World} {b : Nat} {S : NS} (h : One w0 w b S) (o : Obj) : Held w0 (w.alloc o) b S w.heap.size o := by
  obtain ⟨V, h1, h2⟩ := h
  exact ⟨V, h1.later (bel_al w o), bel_next h2 (bel_al w o), fun e => by have := (h1.mods e).2; omega, heap_alloc_new w o⟩
theorem held_done {w0 w : World} {b : Nat} {S : NS} {r : Nat} {o : Obj} {f : FuncId} {args : Array Value} {S' : NS} {v : Value} (h : Held w0 w b S r o) (hc : ∀ V, NAt w w0.heap.size b V S → Calls Try.prog f args w (NDone w0.heap.size b V S' v w)) : Calls Try.prog f args w (fun e w' => e = .returned v ∧ Held w0 w' b S' r o) := by
  obtain ⟨V, hN, hb, hn, ho⟩ := h
  refine (hc V hN).mono ?_
  rintro e w' ⟨V', rfl, hw⟩
  have hr : r < w.heap.size := (Array.getElem?_eq_some_iff.1 ho).1
  refine ⟨rfl, V', hw.at_, hb.trans (hw.below hN (Nat.le_refl _)), ?_, (hw.frm.block r hr hn).trans ho⟩
  rintro (e | e)
  · exact hn (Or.inl e)
  · rcases hw.sub r e with e | e
    · exact hn (Or.inr e)
    · omega
/-- The examples' states. -/
def ab : NS := addS (addS NS.new 1 2 ⟨#[97]⟩) 2 1 ⟨#[98]⟩
theorem ab_is : sendS (sendS NS.new 1 2 ⟨#[97]⟩) 2 1 ⟨#[98]⟩ = ab := rfl
def mA : Ml := ⟨1, 1, 2, ⟨#[97]⟩, 0⟩
def mB : Ml := ⟨2, 2, 1, ⟨#[98]⟩, 0⟩
theorem ab_mail : ab.mail = [mA, mB] := by kernel_rfl
theorem awake_is (w : World) : Calls Try.prog 9 #[] w fun e w' => e = .returned (.bool true) ∧ Below w.heap.size w w' := by
  have kn := new_is w
  have h0 := One.made w
  have e1 : sendN NS.new 1 2 ⟨#[97]⟩ = 1 := by kernel_rfl
  have r1 : refuse NS.new 1 2 ⟨#[97]⟩ = false := by kernel_rfl
  have s1 : sendS NS.new 1 2 ⟨#[97]⟩ = ⟨[mA], 1, fun _ => false⟩ := by unfold sendS; rw [r1]; rfl
  have e2 : sendN ⟨[mA], 1, fun _ => false⟩ 2 1 ⟨#[98]⟩ = 2 := by kernel_rfl
  have r2 : refuse ⟨[mA], 1, fun _ => false⟩ 2 1 ⟨#[98]⟩ = false := by kernel_rfl
  have s2 : sendS ⟨[mA], 1, fun _ => false⟩ 2 1 ⟨#[98]⟩ = ⟨[mA, mB], 2, fun _ => false⟩ := by unfold sendS; rw [r2]; rfl
  have r3 : sameAs ⟨[mA, mB], 2, fun _ => false⟩ 1 2 true = false := by kernel_rfl
  have s3 : setS ⟨[mA, mB], 2, fun _ => false⟩ 1 2 true = ⟨[mA, mB], 2, turnP (fun _ => false) 1 2 true⟩ := by unfold setS; rw [r3]; rfl
  have r4 : readyL ⟨[mA, mB], 2, turnP (fun _ => false) 1 2 true⟩ = [] := by kernel_rfl
  have s5 : healS ⟨[mA, mB], 2, turnP (fun _ => false) 1 2 true⟩ = ⟨[mA, mB], 2, fun _ => false⟩ := rfl
  have r5 : readyL ⟨[mA, mB], 2, fun _ => false⟩ = [mA, mB] := by kernel_rfl
  have r6 : takeM ⟨[mA, mB], 2, fun _ => false⟩ 1 = some mB := by kernel_rfl
  have s6 : takeS ⟨[mA, mB], 2, fun _ => false⟩ 1 = ⟨[mA], 2, fun _ => false⟩ := by kernel_rfl
  have r7 : refuse ⟨[mA], 2, fun _ => false⟩ 1 2 ⟨#[99]⟩ = false := by kernel_rfl
  have s7 : sendS ⟨[mA], 2, fun _ => false⟩ 1 2 ⟨#[99]⟩ = ⟨[mA, ⟨3, 1, 2, ⟨#[99]⟩, 0⟩], 3, fun _ => false⟩ := by unfold sendS; rw [r7]; rfl
  have s8 : dropS ⟨[mA, ⟨3, 1, 2, ⟨#[99]⟩, 0⟩], 3, fun _ => false⟩ 0 = ⟨[⟨3, 1, 2, ⟨#[99]⟩, 0⟩], 3, fun _ => false⟩ := by kernel_rfl
  have r9 : doubleB ⟨[⟨3, 1, 2, ⟨#[99]⟩, 0⟩], 3, fun _ => false⟩ = true := by kernel_rfl
  have s9 : doubleS ⟨[⟨3, 1, 2, ⟨#[99]⟩, 0⟩], 3, fun _ => false⟩ 0 = ⟨[⟨3, 1, 2, ⟨#[99]⟩, 0⟩, ⟨4, 1, 2, ⟨#[99]⟩, 0⟩], 4, fun _ => false⟩ := by kernel_rfl
  have HO := Lib.hid h0
  have E1 := Lib.hid (And.intro e1 (And.intro r1 s1))
  have E2 := Lib.hid (And.intro e2 (And.intro r2 s2))
  have E3 := Lib.hid s3
  have E4 := Lib.hid r4
  have E5 := Lib.hid s5
  have E6 := Lib.hid r5
  have E7 := Lib.hid (And.intro r6 s6)
  have E8 := Lib.hid s7
  have E9 := Lib.hid s8
  have E10 := Lib.hid (And.intro r9 s9)
  clear h0 e1 r1 s1 e2 r2 s2 r3 s3 r4 s5 r5 r6 s6 r7 s7 s8 r9 s9
  go_enter Try.func9, Try.ntmps9
  go_wp2_with (first
    | (go_at_call 10; (with_reducible refine kn.mono ?_); rintro e w1 ⟨rfl, rfl⟩; clear kn)
    | (go_at_call 27; (have k1 := send_one 1 2 ⟨#[97]⟩ (by decide) HO.out); rw [E1.out.1, E1.out.2.1, E1.out.2.2] at k1; (with_reducible refine k1.mono ?_); rintro e w2 ⟨rfl, hO, -, -⟩; (have H2 := Lib.hid hO); clear hO k1 HO)
    | (go_at_call 27; (have k1 := send_one 2 1 ⟨#[98]⟩ (by decide) H2.out); rw [E2.out.1, E2.out.2.1, E2.out.2.2] at k1; (with_reducible refine k1.mono ?_); rintro e w3 ⟨rfl, hO, -, -⟩; (have H3 := Lib.hid hO); clear hO k1 H2)
    | (go_at_call 17; (have k1 := part_one 1 2 H3.out); rw [E3.out] at k1; (with_reducible refine k1.mono ?_); rintro e w4 ⟨rfl, hO, -, -⟩; (have H4 := Lib.hid hO); clear hO k1 H3)
    | (go_at_call 29; (have k1 := ready_one H4.out); rw [E4.out] at k1; (with_reducible refine k1.mono ?_); rintro e w5 ⟨v5, rfl, hR, hB⟩; (obtain ⟨a5, c5, rfl⟩ := hR.slice); (have H5 := Lib.hid (H4.out.later hB)); clear hB hR k1 H4)
    | (go_at_call 21; (have k1 := heal_one H5.out); rw [E5.out] at k1; (with_reducible refine k1.mono ?_); rintro e w6 ⟨rfl, hO, -, -⟩; (have H6 := Lib.hid hO); clear hO k1 H5)
    | (go_at_call 29; (have k1 := ready_one H6.out); rw [E6.out] at k1; (with_reducible refine k1.mono ?_); rintro e w7 ⟨v7, rfl, hR, hB⟩; (obtain ⟨a7, c7, rfl⟩ := hR.slice); (have H7 := Lib.hid (H6.out.later hB)); clear hB hR k1 H6)
    | (go_at_call 11; (have k1 := take_one 1 (by decide) H7.out); rw [E7.out.1, E7.out.2] at k1; unfold mailV Ml.v mB at k1; (with_reducible refine k1.mono ?_); rintro e w8 ⟨rfl, hO, -, -⟩; (have H8 := Lib.hid (hO.held (.cells #[.int .i64 2, .int .i64 2, .int .i64 1, .string ⟨#[98]⟩, .int .i64 0] 34))); clear hO k1 H7)
    | (go_at_call 27; (have k1 := held_done H8.out fun _ hN => send_is 1 2 ⟨#[99]⟩ (by decide) hN); rw [E8.out] at k1; (with_reducible refine k1.mono ?_); rintro e w9 ⟨rfl, hO⟩; (have H9 := Lib.hid hO); clear hO k1 H8)
    | (go_at_call 13; (have k1 := held_done H9.out fun _ hN => drop_is 0 (by decide) hN); rw [E9.out] at k1; (with_reducible refine k1.mono ?_); rintro e w10 ⟨rfl, hO⟩; (have H10 := Lib.hid hO); clear hO k1 H9)
    | (go_at_call 15; (have k1 := held_done H10.out fun _ hN => double_is 0 (by decide) hN); rw [E10.out.1, E10.out.2] at k1; (with_reducible refine k1.mono ?_); rintro e w11 ⟨rfl, hO⟩; (have H11 := Lib.hid hO); (have d3 := cell_of (j := 3) hO.at_); (have kw := waits_one hO.one); clear hO k1 H10)
    | (go_at_call 31; (with_reducible refine kw.mono ?_); rintro e w12 ⟨rfl, rfl⟩; clear kw))
  go_ret
  exact ⟨rfl, H11.out.one.bel⟩
end Go.Proofs.Ytnjabhjcnkbgpaa

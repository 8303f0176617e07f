/- A read as it lies in memory; what it answers of a node; slices of lists. -/
import Derived.Test.YtcjcbbpolhpphaaQuNew
import Derived.Maps.OwnSet
set_option maxRecDepth 20000
set_option linter.unusedSimpArgs false
set_option linter.unusedVariables false
namespace Go.Proofs.Ytcjcbbpolhpphaa.Qu
open Go.RowKit Go.Maps Go.Proofs.Ytcjcbbpolhpphaa.Vi

structure RS where
  S : QS
  an : Int → List Pt
  cnt : Nat
def ansS (R : RS) (n : Int) (l : List Pt) : RS := if hearB R.S n = true then ⟨hearS R.S n, fun i => if i = n then srtR l else R.an i, R.cnt + 1⟩ else R
def ansL (R : RS) : List (List Pt) := (repL R.S).map R.an
def mrgL (R : RS) : List Pt := srtR (ansL R).flatten
def newR (need : Int) (l : List Int) : RS := ⟨newS need l, fun _ => [], 0⟩
abbrev slR (v : Value) : Option (DataW Value × List MemPlace) := some (.held v, [])
abbrev NILV : DataW Value := .held (.slice none 0 0)
theorem kint : Keyed Try.prog 3 := int_keyed Try.underlying3
theorem key_i (k : Nat) (h : k < 16) : keyOf Try.prog 3 (.int .i64 (k : Int)) = some (.int .i64 (k : Int)) := keyOf_int_mk Try.underlying3 (by
  match k, h with
  | 0, _ | 1, _ | 2, _ | 3, _ | 4, _ | 5, _ | 6, _ | 7, _ | 8, _ | 9, _ | 10, _ | 11, _ | 12, _ | 13, _ | 14, _ | 15, _ => rfl
  | n + 16, h => exact absurd h (by omega))
/-- A read's map, and the rows that it holds. -/
structure MpAt (w : World) (B m : Nat) (R : RS) : Prop where
  lo : B ≤ m
  map : ∃ D : DataW Value, w.ownsMap Try.prog 3 slR m R.cnt D ∧ ∀ i : Nat, i < 16 → ∃ a c, D.atKey (.int .i64 (i : Int)) NILV = .held (.slice a (R.an (i : Int)).length c) ∧ PRow w B (.slice a (R.an (i : Int)).length c) (R.an (i : Int))
theorem MpAt.heap {w : World} {B m : Nat} {R : RS} (h : MpAt w B m R) : ∃ es cl, w.heap[m]? = some (.map es cl) := by
  obtain ⟨D, ⟨es, cl, h, -⟩, -⟩ := h.map
  exact ⟨es, cl, h⟩
theorem MpAt.lt {w : World} {B m : Nat} {R : RS} (h : MpAt w B m R) : m < w.heap.size := by
  obtain ⟨es, cl, h⟩ := h.heap
  exact (Array.getElem?_eq_some_iff.1 h).1
theorem prow_other {w w' : World} {B : Nat} {v : Value} {xs : List Pt} (h : PRow w B v xs) (k : ∀ (g : Nat) (cur : Array Value), w.heap[g]? = some (.cells cur 55 (0, 0)) → w'.heap[g]? = w.heap[g]?) : PRow w' B v xs := by
  obtain ⟨h1, h2⟩ := h
  refine ⟨h1, ?_⟩
  rcases h2 with h2 | ⟨g, cap, cur, e1, e2, e3, rest⟩
  · exact Or.inl h2
  · exact Or.inr ⟨g, cap, cur, e1, e2, (k g cur e3).trans e3, rest⟩
theorem MpAt.other {w w' : World} {B m : Nat} {R : RS} (h : MpAt w B m R) (k : ∀ (g : Nat) (cur : Array Value), w.heap[g]? = some (.cells cur 55 (0, 0)) → w'.heap[g]? = w.heap[g]?) (km : w'.heap[m]? = w.heap[m]?) : MpAt w' B m R := by
  obtain ⟨h0, D, ⟨es, cl, h1, h2⟩, h3⟩ := h
  exact ⟨h0, D, ⟨es, cl, km.trans h1, h2⟩, fun i hi => (h3 i hi).imp fun a h => h.imp fun c h => ⟨h.1, prow_other h.2 k⟩⟩
structure RdG (w : World) (B0 B b : Nat) (R : RS) : Prop where
  at_ : WAt w b 67 R.S
  lo : B0 ≤ b
  mp : (w.cell? ⟨b, 33, none⟩ = some (.map none) ∧ ∀ i : Nat, i < 16 → R.an (i : Int) = []) ∨ ∃ m, w.cell? ⟨b, 33, none⟩ = some (.map (some m)) ∧ MpAt w B m R
  len : ∀ i, (R.an i).length ≤ 1000
  nam : ∀ i, ∀ p ∈ R.an i, p.s.size ≤ 1000
  srt : ∀ i, srtB (R.an i) = true
/-- .. all of it above B. -/
abbrev RdAt (w : World) (B b : Nat) (R : RS) : Prop := RdG w B B b R
/-- The blocks that an answer may turn. -/
def rmods (w : World) (b k : Nat) : Prop := k = b ∨ w.cell? ⟨b, 33, none⟩ = some (.map (some k))
theorem RdG.other {w w' : World} {B0 B b : Nat} {R : RS} (h : RdG w B0 B b R) (k : ∀ g, g < w.heap.size → rmods w b g ∨ (∃ cur : Array Value, w.heap[g]? = some (.cells cur 55 (0, 0))) → w'.heap[g]? = w.heap[g]?) : RdG w' B0 B b R := by
  obtain ⟨h1, h2, h3, h4, h5, h6⟩ := h
  have kb := k b h1.lt (Or.inl (Or.inl rfl))
  have hc : ∀ o, w'.cell? ⟨b, o, none⟩ = w.cell? ⟨b, o, none⟩ := fun o => World.cell?_of_block (w := w) kb
  refine ⟨h1.of kb, h2, ?_, h4, h5, h6⟩
  rcases h3 with ⟨c, ha⟩ | ⟨m, c, hm⟩
  · exact Or.inl ⟨(hc _).trans c, ha⟩
  · exact Or.inr ⟨m, (hc _).trans c, hm.other (fun g cur hg => k g (Array.getElem?_eq_some_iff.1 hg).1 (Or.inr ⟨cur, hg⟩)) (k m hm.lt (Or.inl (Or.inr c)))⟩
theorem RdG.later {w w' : World} {B0 B b : Nat} {R : RS} (h : RdG w B0 B b R) (k : Below w.heap.size w w') : RdG w' B0 B b R := h.other fun g hg _ => k.block g hg
theorem NR.rd {w wr : World} {need : Int} {l : List Int} {b B : Nat} (h : NR w wr need l b) (hok : -9223372036854775808 ≤ need ∧ need ≤ 9223372036854775807) (hB : B ≤ w.heap.size) : RdAt wr B b (newR need l) :=
  ⟨h.at_ hok, Nat.le_trans hB h.lo, Or.inl ⟨h.map, fun i hi => rfl⟩, fun i => by simp [newR], fun i p hp => by simp [newR] at hp, fun i => rfl⟩
theorem RdAt.mods_hi {w : World} {B b : Nat} {R : RS} (h : RdAt w B b R) {k : Nat} (hk : rmods w b k) : B ≤ k := by
  rcases hk with rfl | hk
  · exact h.lo
  · rcases h.mp with ⟨c, -⟩ | ⟨m, c, hm⟩
    · rw [c] at hk; cases hk
    · rw [c] at hk
      injection hk with hk
      injection hk with hk
      injection hk with hk
      subst hk; exact hm.lo
theorem RdG.mods_lo {w : World} {B0 B b : Nat} {R : RS} (h : RdG w B0 B b R) (hle : B0 ≤ B) {k : Nat} (hk : rmods w b k) : B0 ≤ k := by
  rcases hk with rfl | hk
  · exact h.lo
  · rcases h.mp with ⟨c, -⟩ | ⟨m, c, hm⟩
    · rw [c] at hk; cases hk
    · rw [c] at hk
      injection hk with hk
      injection hk with hk
      injection hk with hk
      subst hk; exact Nat.le_trans hle hm.lo
/-- While there is no map the rows' bound is free. -/
theorem RdG.rebase {w : World} {B0 B b : Nat} {R : RS} (h : RdG w B0 B b R) (hm : w.cell? ⟨b, 33, none⟩ = some (.map none)) (B' : Nat) : RdG w B0 B' b R := by
  refine ⟨h.at_, h.lo, Or.inl ⟨hm, ?_⟩, h.len, h.nam, h.srt⟩
  rcases h.mp with ⟨c, ha⟩ | ⟨m, c, -⟩
  · exact ha
  · rw [hm] at c; cases c
abbrev TMP : TypeId := 65
theorem zeroSl (W : World) : (zeroValue 35).run Try.prog W = .ok (.slice none 0 0) W := by kernel_rfl
/-- What is looked up. -/
theorem RdG.look {w : World} {B0 B b : Nat} {R : RS} (h : RdG w B0 B b R) (k : Nat) (hk : k < 16) : ∃ mv a c, w.cell? ⟨b, 33, none⟩ = some (.map mv) ∧ (Instr.lookup TMP (.map mv) (.int .i64 (k : Int)) false).run Try.prog w = .ok (.slice a (R.an (k : Int)).length c) w ∧ PRow w B (.slice a (R.an (k : Int)).length c) (R.an (k : Int)) := by
  rcases h.mp with ⟨c, ha⟩ | ⟨m, c, ⟨-, D, hD, hat⟩⟩
  · refine ⟨none, none, 0, c, ?_, ?_⟩
    · rw [ha k hk]
      exact Maps.look_nil (P := Try.prog) (w := w) false kint Try.underlying65 (zeroSl w) (key_i k hk)
    · rw [ha k hk]; exact PRow.nil _ _
  · obtain ⟨a, d, e1, e2⟩ := hat k hk
    obtain ⟨v, ps, hrun, hv⟩ := hD.lookup kint Try.underlying65 (zeroSl w) (zd := NILV) (zp := []) rfl (key_i k hk)
    rw [e1] at hv
    unfold slR at hv
    simp only [Option.some.injEq, Prod.mk.injEq, DataW.held.injEq] at hv
    obtain ⟨rfl, -⟩ := hv
    exact ⟨some m, a, d, c, hrun, e2⟩
/-- A slice of lists that the call has made above C, of lists made above B. -/
def LR (w : World) (B C : Nat) (v : Value) (L : List (List Pt)) : Prop := ∃ vs : List Value, w.ownsRow C 35 1 v L.length vs ∧ ∀ i (h : i < L.length), ∃ p c, vs[i]? = some (.slice p (L[i]).length c) ∧ PRow w B (.slice p (L[i]).length c) L[i]
theorem LR.nil (w : World) (B C : Nat) : LR w B C (.slice none 0 0) [] := ⟨[], World.ownsRow_nil _ _ _ _, fun i h => absurd h (Nat.not_lt_zero _)⟩
theorem LR.slice {w : World} {B C : Nat} {v : Value} {L : List (List Pt)} (h : LR w B C v L) : ∃ a c, v = .slice a L.length c := by
  obtain ⟨vs, h, -⟩ := h
  exact ownsRow_slice h
theorem LR.later {w w' : World} {B C : Nat} {v : Value} {L : List (List Pt)} (h : LR w B C v L) (k : Below w.heap.size w w') : LR w' B C v L := by
  obtain ⟨vs, h1, h2⟩ := h
  exact ⟨vs, owns_later h1 k, fun i hi => (h2 i hi).imp fun p h => h.imp fun c h => ⟨h.1, h.2.later k⟩⟩
/-- append(l, m), m a list, l the call's own. -/
theorem wpList_appLR {ops : Array Oper} {rest : List Oper} {o : Oper} {a : Act} {w : World} {Q : Exit → Act → World → Prop} (hgd : o.guard = none) (d s : Operand)
    (ho : o.op = .call { callee := .builtin .append, args := #[d, s], argTypes := #[72, 72] }) (B C r : Nat) (v : Value) (L : List (List Pt)) (p : Option Addr) (c m : Nat) (l : List Pt) (N : Nat) (hd : a.eval d = v) (hs : a.eval s = .slice (some ⟨N, 0, none⟩) 1 1) (hN : w.heap.size = N)
    (hr : Hid (L.length = r)) (hR : LR w B C v L) (hm : l.length = m) (hl : PRow w B (.slice p m c) l) (hlen : r + 1 ≤ 1000000) (hB : C ≤ w.heap.size)
    (h : ∀ a' c' w', Hid (LR w' B C (.slice a' (r + 1) c') (L ++ [l])) → Below C w w' → wpList Try.prog ops Q rest (a.put o.dst (.slice a' (r + 1) c')) w') :
    wpList Try.prog ops Q (o :: rest) a (w.alloc (.cells #[.slice p m c] 35)) := by
  subst hN
  subst hm
  obtain ⟨i0, hi, hz0, hz1, hz2⟩ := info_parts infoL
  have hr := hr.out
  obtain ⟨vs, hR2, hL⟩ := hR
  rw [hr] at hR2
  have hne : ∀ q, v.ownBlock = some q → C ≤ q := fun q hq => (World.ownsRow.lt hR2 q hq).1
  have hvl : vs.length = r := by have := hR2.1; omega
  refine wpList_append_own_at (w := w.alloc (.cells #[.slice p l.length c] 35)) hgd d s 72 ho C 35 i0 (.slice none 0 0) 1 24 Try.underlying72 hi hz0 hz1 hz2 rfl (by decide) v r vs hd (hR2.alloc _) ⟨w.heap.size, 0, none⟩ 1 1 [.slice p l.length c] hs rfl (fun j u hj => by
      match j, hj with
      | 0, hj => simp at hj; subst hj; simp [Addr.add]) (fun u hu => by rw [List.mem_singleton] at hu; subst hu; rfl) (by unfold maxLen; omega) (by omega) (by simp; omega) ?_
  intro v' w' hown hgrow _ _
  have hlr : (L ++ [l]).length = r + 1 := by rw [List.length_append, hr]; rfl
  have hal := (Below.refl w.heap.size w).alloc (Nat.le_refl _) (.cells #[.slice p l.length c] 35)
  have keep : ∀ {x : Value} {xs : List Pt}, PRow w B x xs → PRow w' B x xs := fun {x xs} hx => (hx.later hal).grown hgrow (apartPL hx hR2)
  have hR3 : LR w' B C v' (L ++ [l]) := by
    refine ⟨vs ++ [.slice p l.length c], by rw [hlr]; exact hown, fun i hi => ?_⟩
    rw [hlr] at hi
    by_cases hir : i < r
    · obtain ⟨p', c', e, hp⟩ := hL i (by omega)
      rw [List.getElem_append_left (by omega)]
      exact ⟨p', c', by rw [List.getElem?_append_left (by omega)]; exact e, keep hp⟩
    · obtain rfl : i = r := by omega
      have e : (L ++ [l])[i] = l := by rw [List.getElem_append_right (by omega)]; simp [hr]
      rw [e]
      exact ⟨p, c, by rw [List.getElem?_append_right (by omega)]; simp [hvl], keep hl⟩
  obtain ⟨a', c', e⟩ := hR3.slice
  rw [hlr] at e
  subst e
  exact h a' c' w' hR3 (((Below.refl C w).alloc hB _).grown hgrow (by simp; omega) hne)
theorem LR.lls {w : World} {B C : Nat} {a : Option Addr} {n c : Nat} {L : List (List Pt)} (h : LR w B C (.slice a n c) L) : LLs w w.heap.size a L := by
  obtain ⟨vs, h1, h2⟩ := h
  refine ⟨?_⟩
  cases L with
  | nil => exact Or.inl rfl
  | cons x L =>
    right
    rcases h1.2 with ⟨_, h0⟩ | ⟨g, cap, cur, e, _, hb, _⟩
    · simp at h0
    · injection e with e1 e2 e3
      subst e1 e2 e3
      refine ⟨g, 0, rfl, (Array.getElem?_eq_some_iff.1 hb).1, fun i hi => ?_⟩
      obtain ⟨p, c', e, hp⟩ := h2 i hi
      refine ⟨p, c', ?_, hp.lst⟩
      have hvl : vs.length = (x :: L).length := by have := h1.1; omega
      have := World.ownsRow.cellAt h1 i (by omega)
      rw [Nat.zero_add, this]
      exact e
end Go.Proofs.Ytcjcbbpolhpphaa.Qu

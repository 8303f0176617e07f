/- Rows of stamps: their bytes, and how they are read again; slices of stamps that the call makes. -/
import Derived.Test.YtkgagedjjjaofaaMarkReadMath
import Derived.Test.YtkgagedjjjaofaaMarkStamps
namespace Go.Proofs.Ytkgagedjjjaofaa
open Go.RowKit Go.Proofs.Ytkgagedjjjaofaa.Vi Go.Proofs.Ytkgagedjjjaofaa.Mk

def good (l : List St) : List St := l.filter fun a => a.ok
def bytesAll (l : List St) : List UInt8 := l.flatMap St.bytes
theorem good_yes (l : List St) (k : Nat) (h : k < l.length) (ho : (l[k]).ok = true) : good (l.take (k + 1)) = good (l.take k) ++ [l[k]] := by
  unfold good
  rw [List.take_succ_eq_append_getElem h, List.filter_append]
  simp [ho]
theorem good_no (l : List St) (k : Nat) (h : k < l.length) (ho : (l[k]).ok = false) : good (l.take (k + 1)) = good (l.take k) := by
  unfold good
  rw [List.take_succ_eq_append_getElem h, List.filter_append]
  simp [ho]
theorem good_len (l : List St) (k : Nat) : (good (l.take k)).length ≤ k := by
  have h1 := List.length_filter_le (fun a : St => a.ok) (l.take k)
  have h2 : (l.take k).length ≤ k := by rw [List.length_take]; omega
  unfold good; omega
theorem good_ok {l : List St} {a : St} (h : a ∈ good l) : a.ok = true := by
  unfold good at h; exact (List.mem_filter.1 h).2
theorem bytes_len (a : St) : a.bytes.length ≤ 30 := by
  cases h : a.ok with
  | false => rw [St.bytes_no h]; simp
  | true =>
    obtain ⟨b1, b2, b3, b4, b5, b6⟩ := St.ok_iff.1 h
    rw [St.bytes_yes h, List.length_append, List.length_append]
    have h1 := enc_len10 a.c.toNat (by omega)
    have h2 := enc_len10 a.s.toNat (by omega)
    have h3 := enc_len10 a.q.toNat (by omega)
    omega
theorem bytesAll_len (l : List St) : (bytesAll l).length ≤ 30 * l.length := by
  induction l with
  | nil => simp [bytesAll]
  | cons a t ih =>
    have h := bytes_len a
    have e : bytesAll (a :: t) = a.bytes ++ bytesAll t := by simp [bytesAll]
    rw [e, List.length_append, List.length_cons]; omega
theorem bytesAll_snoc (l : List St) (a : St) : bytesAll (l ++ [a]) = bytesAll l ++ a.bytes := by unfold bytesAll; rw [List.flatMap_append]; simp
theorem bytesAll_drop (g : List St) (k : Nat) (h : k < g.length) : bytesAll (g.drop k) = (g[k]).bytes ++ bytesAll (g.drop (k + 1)) := by
  rw [List.drop_eq_getElem_cons h]; simp only [bytesAll, List.flatMap_cons]
/-- A stamp's bytes are read as the stamp. -/
theorem takeQ_enc (a : St) (rest : List UInt8) (h : a.ok = true) : takeQ (tx (a.bytes ++ rest)) false = (a, tx rest, false) := by
  obtain ⟨b1, b2, b3, b4, b5, b6⟩ := St.ok_iff.1 h
  have e1 := smallQ_enc a.c 1099511627776 (enc a.s.toNat ++ (enc a.q.toNat ++ rest)) (by omega) (by omega) (by omega)
  have e2 := smallQ_enc a.s 7 (enc a.q.toNat ++ rest) (by omega) (by omega) (by omega)
  have e3 := smallQ_enc a.q 1099511627776 rest (by omega) (by omega) (by omega)
  have e0 : a.bytes ++ rest = enc a.c.toNat ++ (enc a.s.toNat ++ (enc a.q.toNat ++ rest)) := by rw [St.bytes_yes h]; simp [List.append_assoc]
  unfold takeQ
  simp only [e0, e1, e2, e3]
  rw [if_pos h]
theorem smallQ_nil (m : Int) : smallQ (tx []) false m = (0, ⟨#[]⟩, true) := rfl
theorem smallQ_bad (m : Int) : smallQ ⟨#[]⟩ true m = (0, ⟨#[]⟩, true) := rfl
theorem takeQ_nil : takeQ (tx []) false = (⟨0, 0, 0⟩, ⟨#[]⟩, true) := by
  unfold takeQ
  dsimp only
  split
  · rename_i h
    simp [smallQ_nil, smallQ_bad, St.ok] at h
  · rfl

theorem infoS : (Try.prog.info? 23).map (fun i => (i.zero, i.size, i.bytes)) = some (some (.agg #[.int .i64 0, .int .i64 0, .int .i64 0]), 3, 24) := by kernel_rfl
def cells3 (a : St) : List Value := [.int .i64 a.c, .int .i64 a.s, .int .i64 a.q]
theorem flat_len (l : List St) : (l.flatMap cells3).length = l.length * 3 := by
  induction l with
  | nil => rfl
  | cons a t ih =>
    have e : (a :: t).flatMap cells3 = cells3 a ++ t.flatMap cells3 := by simp
    rw [e, List.length_append, ih, List.length_cons]
    show 3 + t.length * 3 = _
    omega
theorem flat_at (l : List St) : ∀ i (h : i < l.length) r, r < 3 → (l.flatMap cells3)[i * 3 + r]? = (cells3 l[i])[r]? := by
  induction l with
  | nil => intro i h; simp at h
  | cons a t ih =>
    intro i h r hr
    have e : (a :: t).flatMap cells3 = cells3 a ++ t.flatMap cells3 := by simp
    have hl : (cells3 a).length = 3 := rfl
    rw [e]
    cases i with
    | zero =>
      rw [List.getElem?_append_left (by rw [hl]; omega)]; simp
    | succ i =>
      rw [List.getElem?_append_right (by rw [hl]; omega), hl, show (i + 1) * 3 + r - 3 = i * 3 + r by omega, ih i (by simpa using h) r hr]
      simp
/-- v is a slice that the call has made above B, of the stamps xs. -/
def SRow (w : World) (B : Nat) (v : Value) (xs : List St) : Prop := w.ownsRow B 23 3 v xs.length (xs.flatMap cells3)
theorem SRow.slice {w : World} {B : Nat} {v : Value} {xs : List St} (h : SRow w B v xs) : ∃ a c, v = .slice a xs.length c := by
  rcases h.2 with ⟨h, h0⟩ | ⟨g, cap, cur, h, _⟩
  · exact ⟨_, _, by rw [h, h0]⟩
  · exact ⟨_, _, h⟩
theorem SRow.nil (w : World) (B : Nat) : SRow w B (.slice none 0 0) [] := World.ownsRow_nil _ _ _ _
theorem owns_later {w w' : World} {B size n : Nat} {e : TypeId} {v : Value} {xs : List Value} (h : w.ownsRow B e size v n xs) (k : Below w.heap.size w w') : w'.ownsRow B e size v n xs := by
  obtain ⟨h1, h2⟩ := h
  refine ⟨h1, ?_⟩
  rcases h2 with h2 | ⟨g, cap, cur, e1, e2, e3, rest⟩
  · exact Or.inl h2
  · have hg : g < w.heap.size := (Array.getElem?_eq_some_iff.1 e3).1
    exact Or.inr ⟨g, cap, cur, e1, e2, (k.block g hg).trans e3, rest⟩
theorem SRow.later {w w' : World} {B : Nat} {v : Value} {xs : List St} (h : SRow w B v xs) (k : Below w.heap.size w w') : SRow w' B v xs := by
  obtain ⟨h1, h2⟩ := h
  refine ⟨h1, ?_⟩
  rcases h2 with h2 | ⟨g, cap, cur, e1, e2, e3, rest⟩
  · exact Or.inl h2
  · have hg : g < w.heap.size := (Array.getElem?_eq_some_iff.1 e3).1
    exact Or.inr ⟨g, cap, cur, e1, e2, (k.block g hg).trans e3, rest⟩
theorem SRow.sts {w : World} {B : Nat} {a : Option Addr} {n c : Nat} {xs : List St} (h : SRow w B (.slice a n c) xs) : Sts w w.heap.size a xs := by
  by_cases hz : xs = []
  · exact ⟨Or.inl hz⟩
  · have hp : 0 < xs.length := List.length_pos_iff.2 hz
    have h0 := h
    rcases h.2 with ⟨hv, h0⟩ | ⟨g, cap, cur, hv, _⟩
    · exact absurd (List.eq_nil_of_length_eq_zero h0) hz
    · injection hv with e1 e2 e3
      subst e1 e2 e3
      have e1 := World.ownsRow.cellAt (show w.ownsRow B 23 3 _ xs.length (xs.flatMap cells3) from h0)
      have c : ∀ j (hj : j < xs.length), StO w g (0 + j * 3) xs[j] := fun j hj => by
        rw [Nat.zero_add]
        refine ⟨?_, ?_, ?_⟩
        · have := flat_at xs j hj 0 (by omega)
          rw [Nat.add_zero] at this
          rw [e1 _ (by omega), this]; rfl
        · rw [e1 _ (by omega), flat_at xs j hj 1 (by omega)]; rfl
        · rw [e1 _ (by omega), flat_at xs j hj 2 (by omega)]; rfl
      exact ⟨Or.inr ⟨g, 0, rfl, (c 0 hp).room, c⟩⟩
theorem neq_self (a : St) (w : World) : (binOp .neq 23 (.agg #[.int .i64 a.c, .int .i64 a.s, .int .i64 a.q]) (.agg #[.int .i64 a.c, .int .i64 a.s, .int .i64 a.q])).run Try.prog w = .ok (.bool false) w := by simp [go_sem]
/-- One stamp at its place. -/
structure HeldO (w : World) (b o : Nat) (a : St) (w' : World) : Prop where
  h : StO w' b o a
  bel : Below w.heap.size w w'
theorem HeldO.drew {w w1 : World} {b o : Nat} {a : St} (h : HeldO w b o a w1) : HeldO w b o a w1.drew := ⟨h.h.below ((Below.refl w1.heap.size w1).drew) h.h.room, h.bel.drew⟩
theorem HeldO.but {w w1 w2 : World} {b o d : Nat} {a : St} (h : HeldO w b o a w1) (k : But d w1 w2) (hd : b ≠ d) (hw : w.heap.size ≤ d) : HeldO w b o a w2 := ⟨h.h.but k hd, h.bel.trans (k.below hw h.bel.size)⟩
end Go.Proofs.Ytkgagedjjjaofaa

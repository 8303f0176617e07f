/- A file by its name. -/
import Derived.Test.YteijmjbiaffcmaaGreatDoorFilesRight
import Derived.Maps.AppendAt
import Derived.OwnWalk
set_option maxRecDepth 20000
set_option linter.unusedSimpArgs false
namespace Go.Proofs.YteijmjbiaffcmaaGreatDoor.Fi
open Go.RowKit Go.Maps Go.Shelf

theorem SrcIs.later {w w' : World} {p : Option Nat} {M : FM} (h : SrcIs w p M) (k : Below w.heap.size w w') : SrcIs w' p M := h.of fun i e => by
  obtain ⟨es, c, hh⟩ := h.lt e
  exact k.block i (Array.getElem?_eq_some_iff.1 hh).1
theorem look_src {w : World} {p : Option Nat} {M : FM} (h : SrcIs w p M) (s : ByteArray) (hs : s.size ≤ maxLen) : (Instr.lookup 76 (.map p) (.string s) false).run Tryz.prog w = .ok (ptrV (look M (nm s))) w := by
  rcases h with ⟨rfl, rfl⟩ | ⟨b, rfl, h⟩
  · have := Maps.look_nil (P := Tryz.prog) (w := w) false law Tryz.underlying76 (z := .pointer none) (by kernel_rfl) (key_is hs)
    exact this
  · exact look_run h s hs
def sRow (w : World) (B : Nat) (v : Value) (l : List ByteArray) : Prop := w.ownsRow B 9 1 v l.length (l.map Value.string)
theorem sRow.ss {w : World} {B : Nat} {v : Value} {l : List ByteArray} (h : sRow w B v l) (hs : ∀ s ∈ l, s.size ≤ maxLen) (hl : l.length ≤ 1000000) : Ss w v l := by
  have h0 := h
  rcases h.2 with ⟨hv, h2⟩ | ⟨g, cap, cur, hv, hg, hh, hn, hm, hsz, ht⟩
  · obtain rfl := List.eq_nil_of_length_eq_zero h2
    exact ⟨⟨_, _, hv, Or.inl rfl⟩, hs, by simp⟩
  · subst hv
    have e1 := World.ownsRow.cellAt (show w.ownsRow B 9 1 _ l.length (l.map Value.string) from h0)
    refine ⟨⟨_, _, rfl, Or.inr ⟨g, 0, rfl, (Array.getElem?_eq_some_iff.1 hh).1, fun j hj => ?_⟩⟩, hs, by omega⟩
    rw [Nat.zero_add, e1 j (by omega)]; simp [hj]
theorem sRow.slice {w : World} {B : Nat} {v : Value} {l : List ByteArray} (h : sRow w B v l) : ∃ a c, v = .slice a l.length c := by
  rcases h.2 with ⟨h, h0⟩ | ⟨g, cap, cur, h, _⟩
  · exact ⟨_, _, by rw [h, h0]⟩
  · exact ⟨_, _, h⟩
theorem infoS : (Tryz.prog.info? 9).map (fun i => (i.zero, i.size, i.bytes)) = some (some (.string ⟨#[]⟩), 1, 16) := by kernel_rfl
/-- A name appended to no names. -/
theorem wpList_name {w : World} {ops : Array Oper} {rest : List Oper} {o : Oper} {a : Act} {Q : Exit → Act → World → Prop} (hgd : o.guard = none) (sl x : Operand)
    (ho : o.op = .call { callee := .builtin .append, args := #[sl, x], argTypes := #[34, 34] })
    (s : ByteArray) (hs : a.eval sl = .slice none 0 0) (hx : a.eval x = .slice (some ⟨w.heap.size, 0, none⟩) 1 1)
    (h : ∀ v' w', sRow w' w.heap.size v' [s] → Below w.heap.size w w' → wpList Tryz.prog ops Q rest (a.put o.dst v') w') : wpList Tryz.prog ops Q (o :: rest) a (w.alloc (.cells #[.string s] 9)) := by
  obtain ⟨i0, hi, hz0, hz1, hz2⟩ := info_parts infoS
  refine wpList_append_own_at (w := w.alloc (.cells #[.string s] 9)) hgd sl x 34 ho w.heap.size 9 i0 (.string ⟨#[]⟩) 1 16 Tryz.underlying34 hi hz0 hz1 hz2 rfl (by decide) (.slice none 0 0) 0 [] hs (World.ownsRow_nil _ _ _ _) ⟨w.heap.size, 0, none⟩ 1 1 [.string s] hx rfl ?_ ?_ (by unfold maxLen; omega) (by omega) (by simp) ?_
  · intro j u hj
    match j, hj with
    | 0, hj => simp at hj; subst hj; simp [Addr.add]
  · intro u hu; simp at hu; subst hu; rfl
  · intro v' w' h2 h3 _ h4
    refine h v' w' h2 ?_
    exact ((Below.refl w.heap.size w).alloc (Nat.le_refl _) _).grown h3 (by simp) (fun q hq => by simp [Value.ownBlock] at hq)
def findS (S : FS) (s : ByteArray) : Option Nat × Int := if checkS S [s] ≠ 0 then (none, checkS S [s]) else match look S.now (nm s) with | some q => (some q, 0) | none => (none, 12)
theorem find_is (b : Nat) (S : FS) (L : Lay) (s : ByteArray) (w : World) (h : FsAt w b S L) (hs : s.size ≤ maxLen) : Calls Tryz.prog 62 #[.pointer (some ⟨b, 0, none⟩), .string s, .slice none 0 0] w fun e w' => e = .returned (.tuple #[ptrV (findS S s).1, .int .i64 (findS S s).2]) ∧ Below w.heap.size w w' := by
  have kc := fun v W (h : FsAt W b S L) hs => check_is b S L v [s] W h hs
  have HL := Lib.hid (fun W (k : Below w.heap.size w W) => look_src (h.now.later k) s hs)
  have HC1 := Lib.hid (fun W (k : Below w.heap.size w W) => (h.later k).cells.2.1)
  have HF := Lib.hid h
  have hone : ∀ x ∈ [s], x.size ≤ maxLen := fun x hx => by rw [List.mem_singleton] at hx; subst hx; exact hs
  have HONE := Lib.hid hone
  obtain ⟨fe, hfe⟩ : ∃ fe, findS S s = fe := ⟨_, rfl⟩
  obtain ⟨e, he⟩ : ∃ e, checkS S [s] = e := ⟨_, rfl⟩
  simp only [he] at kc
  rw [hfe]
  have HFE := Lib.hid hfe
  have HE := Lib.hid he
  clear h hs hone hfe he
  by_cases he0 : e = 0
  · subst he0
    obtain ⟨r, hr⟩ : ∃ r, look S.now (nm s) = r := ⟨_, rfl⟩
    rw [hr] at HL
    have HR := Lib.hid hr
    clear hr
    cases r with
    | none =>
      have HT := Lib.hid (show (none, 12) = fe by rw [← HFE.out]; unfold findS; rw [if_neg (by rw [HE.out]; decide), HR.out])
      go_enter Tryz.func62, Tryz.ntmps62
      go_wp2_with (first
        | (at_builtin; refine wpList_name rfl _ _ rfl s rfl rfl ?_; intro v1 w1 hr1 hb1; (have kc1 := kc v1 w1 (HF.out.later hb1) (hr1.ss HONE.out (by simp))); (have HB1 := Lib.hid hb1); clear hr1 hb1 kc)
        | (go_at_call 90; (with_reducible refine kc1.mono ?_); rintro e w2 ⟨rfl, rfl⟩; (have c1 := HC1.out _ HB1.out); (have hl := HL.out _ HB1.out); (unfold ptrV at hl); clear kc1))
      go_ret2
      exact ⟨by rw [← HT.out]; rfl, HB1.out⟩
    | some q =>
      have HT := Lib.hid (show (some q, 0) = fe by rw [← HFE.out]; unfold findS; rw [if_neg (by rw [HE.out]; decide), HR.out])
      go_enter Tryz.func62, Tryz.ntmps62
      go_wp2_with (first
        | (at_builtin; refine wpList_name rfl _ _ rfl s rfl rfl ?_; intro v1 w1 hr1 hb1; (have kc1 := kc v1 w1 (HF.out.later hb1) (hr1.ss HONE.out (by simp))); (have HB1 := Lib.hid hb1); clear hr1 hb1 kc)
        | (go_at_call 90; (with_reducible refine kc1.mono ?_); rintro e w2 ⟨rfl, rfl⟩; (have c1 := HC1.out _ HB1.out); (have hl := HL.out _ HB1.out); (unfold ptrV at hl); clear kc1))
      go_ret2
      exact ⟨by rw [← HT.out]; rfl, HB1.out⟩
  · have HT := Lib.hid (show (none, e) = fe by rw [← HFE.out]; unfold findS; rw [if_pos (by rw [HE.out]; exact he0), HE.out])
    have hq : (e != 0) = true := by simpa using he0
    clear he0
    go_enter Tryz.func62, Tryz.ntmps62
    go_wp2_with (first
      | (at_builtin; refine wpList_name rfl _ _ rfl s rfl rfl ?_; intro v1 w1 hr1 hb1; (have kc1 := kc v1 w1 (HF.out.later hb1) (hr1.ss HONE.out (by simp))); (have HB1 := Lib.hid hb1); clear hr1 hb1 kc)
      | (go_at_call 90; (with_reducible refine kc1.mono ?_); rintro e w2 ⟨rfl, rfl⟩; clear kc1))
    go_ret2
    exact ⟨by rw [← HT.out]; rfl, HB1.out⟩
end Go.Proofs.YteijmjbiaffcmaaGreatDoor.Fi

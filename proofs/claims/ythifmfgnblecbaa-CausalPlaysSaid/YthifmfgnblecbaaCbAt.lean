/- A buffer as it lies in memory; what its own short calls answer. -/
import Derived.Test.YthifmfgnblecbaaCbMap
import Derived.Test.YthifmfgnblecbaaOgVec
import Derived.Deep.RegionHeld
import Derived.BigQuiet
set_option maxRecDepth 20000
set_option linter.unusedSimpArgs false
set_option linter.unusedVariables false
namespace Go.Proofs.Ythifmfgnblecbaa.Og.Cb
open Go.RowKit Go.Maps Go.Proofs.Ythifmfgnblecbaa.Vi Go.Proofs.Ythifmfgnblecbaa.Mk

/-- A buffer at block b, its map at block mv; all that it leans on lies in the blocks F, which nobody else has. -/
structure CbAt (w : World) (B b : Nat) (mv : Option Nat) (ov : Value) (S : CS) (F : Nat → Prop) : Prop where
  obj : w.heap[b]? = some (.cells #[.int .i64 S.room, ov, .map mv] 55 (0, 0))
  ns : Ns w ov S.out
  ovF : S.out ≠ [] → ∀ q, ov.ownBlock = some q → F q ∧ q ≠ b ∧ mv ≠ some q
  fp : ∀ q, F q → B ≤ q ∧ q < w.heap.size
  bF : F b
  none_ : mv = none → S.L = []
  some_ : ∀ m, mv = some m → F m ∧ m ≠ b ∧ ∃ D : DataW Value, w.ownsMap Try.prog TKK slR m S.L.length D ∧ DIs w (fun q => F q ∧ q ≠ b ∧ q ≠ m) D S.L
  good : CGood S
section
variable {w w' W : World} {B b : Nat} {mv : Option Nat} {ov : Value} {S : CS} {F G : Nat → Prop} {p : Option Addr}
theorem CbAt.lt (h : CbAt w B b mv ov S F) : b < w.heap.size := (Array.getElem?_eq_some_iff.1 h.obj).1
theorem CbAt.c0 (h : CbAt w B b mv ov S F) : w.cell? ⟨b, 0, none⟩ = some (.int .i64 S.room) := by rw [Joins.cell_of_block h.obj]; rfl
theorem CbAt.c1 (h : CbAt w B b mv ov S F) : w.cell? ⟨b, 1, none⟩ = some ov := by rw [Joins.cell_of_block h.obj]; rfl
theorem CbAt.c2 (h : CbAt w B b mv ov S F) : w.cell? ⟨b, 2, none⟩ = some (.map mv) := by rw [Joins.cell_of_block h.obj]; rfl
theorem CbAt.fz (h : CbAt w B b mv ov S F) (i : Nat) : w.frozen? ⟨b, i, none⟩ = false := Joins.unfrozen_of_block h.obj _
theorem owns_kept {m n : Nat} {D : DataW Value} (h : w.ownsMap Try.prog TKK slR m n D) (k : w'.heap[m]? = w.heap[m]?) : w'.ownsMap Try.prog TKK slR m n D := by
  obtain ⟨es, cl, h1, h2⟩ := h
  exact ⟨es, cl, k.trans h1, h2⟩
theorem CbAt.off (h : CbAt w B b mv ov S F) (k : FrF G w w') (hd : ∀ q, F q → ¬ G q) : CbAt w' B b mv ov S F := by
  have kk : ∀ q, F q → w'.heap[q]? = w.heap[q]? := fun q hq => k.block q (h.fp q hq).2 (hd q hq)
  refine ⟨(kk b h.bF).trans h.obj, Ns.off h.ns k.size fun hn q hq _ => kk q (h.ovF hn q hq).1, h.ovF, fun q hq => ⟨(h.fp q hq).1, Nat.lt_of_lt_of_le (h.fp q hq).2 k.size⟩, h.bF, h.none_, fun m e => ?_, h.good⟩
  obtain ⟨h1, h2, D, h3, h4⟩ := h.some_ m e
  exact ⟨h1, h2, D, owns_kept h3 (kk m h1), h4.keep k.size (fun q hq _ => kk q hq.1) fun q hq => hq⟩
theorem CbAt.later (h : CbAt w B b mv ov S F) (k : Below w.heap.size w w') : CbAt w' B b mv ov S F := h.off (G := fun _ => False) (FrF.of k) fun _ _ => id
theorem CbAt.wide (h : CbAt w B b mv ov S F) (hF : ∀ q, F q → G q) (fp : ∀ q, G q → B ≤ q ∧ q < w.heap.size) : CbAt w B b mv ov S G :=
  ⟨h.obj, h.ns, fun hn q hq => ⟨hF q (h.ovF hn q hq).1, (h.ovF hn q hq).2⟩, fp, hF b h.bF, h.none_, fun m e => by
    obtain ⟨h1, h2, D, h3, h4⟩ := h.some_ m e
    exact ⟨hF m h1, h2, D, h3, h4.keep (Nat.le_refl _) (fun _ _ _ => rfl) fun q hq => ⟨hF q hq.1, hq.2⟩⟩, h.good⟩
def Buf (w : World) (B b : Nat) (S : CS) (F : Nat → Prop) : Prop := ∃ mv ov, CbAt w B b mv ov S F
theorem Buf.off (h : Buf w B b S F) (k : FrF G w w') (hd : ∀ q, F q → ¬ G q) : Buf w' B b S F := by
  obtain ⟨mv, ov, h⟩ := h
  exact ⟨mv, ov, h.off k hd⟩
theorem Buf.later (h : Buf w B b S F) (k : Below w.heap.size w w') : Buf w' B b S F := by
  obtain ⟨mv, ov, h⟩ := h
  exact ⟨mv, ov, h.later k⟩
theorem Buf.good (h : Buf w B b S F) : CGood S := by obtain ⟨mv, ov, h⟩ := h; exact h.good
theorem Buf.fp (h : Buf w B b S F) : ∀ q, F q → B ≤ q ∧ q < w.heap.size := by obtain ⟨mv, ov, h⟩ := h; exact h.fp
/-- What is read of a buffer, or of none. -/
def Rb (w : World) (p : Option Addr) (mv : Option Nat) (S : CS) : Prop := (p = none ∧ mv = none ∧ S = zeroC) ∨ ∃ B b ov F, p = some ⟨b, 0, none⟩ ∧ CbAt w B b mv ov S F
theorem Rb.later (h : Rb w p mv S) (k : Below w.heap.size w w') : Rb w' p mv S := by
  rcases h with h | ⟨B, b, ov, F, h1, h2⟩
  · exact Or.inl h
  · exact Or.inr ⟨B, b, ov, F, h1, h2.later k⟩
theorem Rb.good (h : Rb w p mv S) : CGood S := by
  rcases h with ⟨-, -, rfl⟩ | ⟨B, b, ov, F, h1, h2⟩
  · exact zeroC_good
  · exact h2.good
theorem CbAt.rb (h : CbAt w B b mv ov S F) : Rb w (some ⟨b, 0, none⟩) mv S := Or.inr ⟨B, b, ov, F, rfl, h⟩
theorem Rb.nil (w : World) : Rb w none none zeroC := Or.inl ⟨rfl, rfl, rfl⟩
theorem undM : Try.prog.underlying TMM = some (.map TKK 33) := Try.underlying53
theorem zeroR2 (w : World) : (zeroValue 33).run Try.prog w = .ok ZR w := by kernel_rfl
/-- What is looked up, in this world and in all in which the map stands as here. -/
theorem CbAt.look (h : CbAt w B b mv ov S F) {s q : Int} (hs : I64 s) (hq : I64 q) : ∃ x : Rd, (∀ W : World, (∀ m, mv = some m → W.heap[m]? = w.heap[m]?) → (Instr.lookup TMM (.map mv) (kV s q) true).run Try.prog W = .ok (.tuple #[recV x.r x.dv, .bool (hasB S.L s q)]) W) ∧ x.r = (getL S.L s q).getD Rec.zero ∧ Ns w x.dv x.r.d ∧ (x.r.d ≠ [] → ∀ g, x.dv.ownBlock = some g → F g ∧ g ≠ b ∧ mv ≠ some g) := by
  have hz : ∀ W : World, Ns W (.slice none 0 0) ([] : List Int) := fun W => (Nums.nil W none 0).mono (Nat.zero_le _) (Nat.le_refl _)
  cases mv with
  | none =>
    have h0 := h.none_ rfl
    refine ⟨⟨Rec.zero, none, 0⟩, fun W _ => ?_, ?_, hz w, fun hd => absurd rfl hd⟩
    · rw [Maps.look_nil (P := Try.prog) (w := W) true klaw undM (zeroR2 W) (key_is hs hq), h0]; rfl
    · rw [h0]; rfl
  | some m =>
    obtain ⟨-, -, D, hD, hI⟩ := h.some_ m rfl
    have hrun := fun (W : World) (k : W.heap[m]? = w.heap[m]?) => (owns_kept hD k).look_ok klaw undM (zeroR2 W) (zd := NILR) (zp := []) rfl (key_is hs hq)
    cases hg : getL S.L s q with
    | none =>
      have hn := getL_none_iff.1 hg
      refine ⟨⟨Rec.zero, none, 0⟩, fun W k => ?_, rfl, hz w, fun hd => absurd rfl hd⟩
      obtain ⟨v, ps, hr, hv⟩ := hrun W (k m rfl)
      simp only [Option.some.injEq, Prod.mk.injEq] at hv
      obtain ⟨hv, -⟩ := hv
      rw [Maps.atKey_of_not_has ((hI.has s q hs hq).trans hn)] at hv
      injection hv with hv
      subst hv
      rw [hI.has s q hs hq] at hr
      exact hr
    | some r =>
      obtain ⟨h1, rfl, rfl⟩ := getL_mem hg
      obtain ⟨x, g1, g2, g3, g4⟩ := hI.at_ r h1
      subst g1
      refine ⟨x, fun W k => ?_, rfl, g3, fun hd q hq => ⟨(g4 hd q hq).1, (g4 hd q hq).2.1, fun e => (g4 hd q hq).2.2 (Option.some.inj e).symm⟩⟩
      obtain ⟨v, ps, hr, hv⟩ := hrun W (k m rfl)
      simp only [Option.some.injEq, Prod.mk.injEq] at hv
      obtain ⟨hv, -⟩ := hv
      rw [g2] at hv
      injection hv with hv
      subst hv
      rw [hI.has _ _ hs hq] at hr
      exact hr
theorem CbAt.mlt {m : Nat} (h : CbAt w B b (some m) ov S F) : m < w.heap.size := (h.fp m (h.some_ m rfl).1).2
theorem Rb.look (h : Rb w p mv S) {s q : Int} (hs : I64 s) (hq : I64 q) : ∃ x : Rd, (∀ W : World, Below w.heap.size w W → (Instr.lookup TMM (.map mv) (kV s q) true).run Try.prog W = .ok (.tuple #[recV x.r x.dv, .bool (hasB S.L s q)]) W) ∧ x.r = (getL S.L s q).getD Rec.zero ∧ Ns w x.dv x.r.d := by
  rcases h with ⟨rfl, rfl, rfl⟩ | ⟨B, b, ov, F, h1, h2⟩
  · exact ⟨⟨Rec.zero, none, 0⟩, fun W _ => by rw [Maps.look_nil (P := Try.prog) (w := W) true klaw undM (zeroR2 W) (key_is hs hq)]; rfl, rfl, (Nums.nil w none 0).mono (Nat.zero_le _) (Nat.le_refl _)⟩
  · obtain ⟨x, g1, g2, g3, -⟩ := h2.look hs hq
    exact ⟨x, fun W k => g1 W fun m e => by subst e; exact k.block _ h2.mlt, g2, g3⟩
/-- .. and how many there are. -/
theorem Rb.lenrun (h : Rb w p mv S) (T : TypeId) : (Builtin.len_ #[TMM] T #[.map mv]).run Try.prog w = .ok (.int .i64 (S.L.length : Int)) w := by
  rcases h with ⟨rfl, rfl, rfl⟩ | ⟨B, b, ov, F, h1, h2⟩
  · exact Maps.len_nil undM T
  · cases mv with
    | none => rw [h2.none_ rfl]; exact Maps.len_nil undM T
    | some m =>
      obtain ⟨-, -, D, hD, hI⟩ := h2.some_ m rfl
      rw [hD.len undM T, hI.size]
end
theorem all_is {w : World} {p : Option Addr} {mv : Option Nat} {S : CS} (h : Rb w p mv S) : Calls Try.prog 33 #[.pointer p] w fun e w' => e = .returned (.map mv) ∧ w = w' := by
  rcases h with ⟨rfl, rfl, rfl⟩ | ⟨B, b, ov, F, rfl, h2⟩
  · go_enter Try.func33, Try.ntmps33
    go_wp2
    go_ret
    exact ⟨rfl, rfl⟩
  · have c2 := h2.c2
    clear h2
    go_enter Try.func33, Try.ntmps33
    go_wp2
    go_ret
    exact ⟨rfl, rfl⟩
theorem out_len {S : CS} (h : CGood S) : S.out.length ≤ 8 := by rw [← h.plain]; exact vec_size _
theorem out_is {w : World} {p : Option Addr} {mv : Option Nat} {S : CS} (h : Rb w p mv S) : Calls Try.prog 19 #[.pointer p] w (VNew S.out w) := by
  rcases h with ⟨rfl, rfl, rfl⟩ | ⟨B, b, ov, F, rfl, h2⟩
  · go_enter Try.func19, Try.ntmps19
    go_wp2
    go_ret
    exact ⟨_, rfl, (Nums.nil w none 0).mono (Nat.zero_le _) (Nat.le_refl _), Below.refl _ _, fun q hq => by cases hq⟩
  · have c1 := h2.c1
    have ks := sclone_is ov S.out w h2.ns (by have := out_len h2.good; omega)
    obtain ⟨a, c, rfl⟩ := h2.ns.slice
    clear h2
    go_enter Try.func19, Try.ntmps19
    go_wp2_with (go_at_call 42; (with_reducible refine ks.mono ?_); rintro e w2 ⟨v2, rfl, hn2, hb2, hf2⟩)
    go_ret
    exact ⟨_, rfl, hn2, hb2, hf2⟩
theorem len_is {w : World} {p : Option Addr} {mv : Option Nat} {S : CS} (h : Rb w p mv S) : Calls Try.prog 24 #[.pointer p] w fun e w' => e = .returned (.int .i64 (S.L.length : Int)) ∧ w = w' := by
  have ka := all_is h
  have hl := h.lenrun
  clear h
  go_enter Try.func24, Try.ntmps24
  go_wp2_with (go_at_call 33; (with_reducible refine ka.mono ?_); rintro e w1 ⟨rfl, rfl⟩)
  go_ret
  exact ⟨rfl, rfl⟩
theorem new_block {w w' : World} {o : Obj} (h : Below (w.alloc o).heap.size (w.alloc o) w') : w'.heap[w.heap.size]? = some o := (h.block _ (by simp)).trans (by unfold World.alloc; simp)
abbrev nbox (s q : Int) : Obj := .cells #[.int .i64 s, .int .i64 q] 61
/-- A name's two cells at a block's beginning. -/
structure N2 (w : World) (g : Nat) (s q : Int) : Prop where
  c0 : w.cell? ⟨g, 0, none⟩ = some (.int .i64 s)
  c1 : w.cell? ⟨g, 1, none⟩ = some (.int .i64 q)
  f0 : w.frozen? ⟨g, 0, none⟩ = false
  f1 : w.frozen? ⟨g, 1, none⟩ = false
  lt : g < w.heap.size
theorem N2.of {w : World} {g : Nat} {s q : Int} (h : w.heap[g]? = some (nbox s q)) : N2 w g s q :=
  ⟨by rw [Joins.cell_of_block h]; rfl, by rw [Joins.cell_of_block h]; rfl, Joins.unfrozen_of_block h _, Joins.unfrozen_of_block h _, (Array.getElem?_eq_some_iff.1 h).1⟩
theorem seq_I64 (l : List Int) (s : Int) : I64 (atL l s + 1) := by have := atL_bounds l s; unfold I64; omega
set_option maxHeartbeats 2000000 in
theorem follows_is {w : World} {p : Option Addr} {mv : Option Nat} {S : CS} (h : Rb w p mv S) (s : Int) (hs : I64 s) : Calls Try.prog 32 #[.pointer p, .int .i64 s] w fun e w' => e = .returned (kV s (atL S.out s + 1)) ∧ Below w.heap.size w w' := by
  have hal := (Below.refl w.heap.size w).alloc (Nat.le_refl _) (.cells #[.int .i64 0, .int .i64 0] 61)
  have ko := out_is (h.later hal)
  have hw : IntKind.i64.wrap (atL S.out s + 1) = atL S.out s + 1 := by have := atL_bounds S.out s; rw [IntKind.wrap_i64]; omega
  have kat := fun (v : Value) (W : World) (h : Ns W v S.out) => atN v S.out s W h hs
  obtain ⟨q, hq⟩ : ∃ q, atL S.out s = q := ⟨_, rfl⟩
  rw [hq] at hw kat ⊢
  have HAL := Lib.hid hal
  clear h hq hal
  unfold kV
  go_enter Try.func32, Try.ntmps32
  go_wp2_with (first
    | (go_at_call 19; (with_reducible refine ko.mono ?_); rintro e w2 ⟨v2, rfl, hn2, hb2, hf2⟩; (have HN2 := Lib.hid hn2); (have HB2 := Lib.hid (HAL.out.trans (hb2.mono (by simp)))); (obtain ⟨cz0, cz1, fz0, fz1, hlt⟩ := N2.of (new_block hb2)); (obtain ⟨a2, c2, rfl⟩ := hn2.slice); clear hn2 hb2 hf2)
    | (go_at_call 50; (with_reducible refine (kat _ _ HN2.out).mono ?_); rintro e w3 ⟨rfl, rfl⟩))
  refine bodyPost_ret (v := .agg #[.int .i64 s, .int .i64 (q + 1)]) (by simp [results, Try.results32, go_sem, cz0, cz1]; try rfl) rfl ⟨rfl, ?_⟩
  exact (HB2.out.setCell (by simp) _).setCell (by simp) _
end Go.Proofs.Ythifmfgnblecbaa.Og.Cb

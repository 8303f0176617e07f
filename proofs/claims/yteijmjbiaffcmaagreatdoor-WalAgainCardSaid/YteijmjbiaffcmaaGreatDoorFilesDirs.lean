/- Directories side by side. -/
import Derived.Test.YteijmjbiaffcmaaGreatDoorFilesGood
set_option maxRecDepth 20000
set_option linter.unusedSimpArgs false
namespace Go.Proofs.YteijmjbiaffcmaaGreatDoor.Fi
open Go.RowKit Go.Maps Go.Shelf

structure Dir (w : World) (b : Nat) (S : FS) (L : Lay) : Prop where
  at_ : FsAt w b S L
  bn : ∃ bm, L.bn = some bm
  whole : Whole S
/-- A method has turned S into T. -/
def Turn (b : Nat) (S T : FS) (L : Lay) (v : Value) (w : World) (e : Ending) (w' : World) : Prop := ∃ L', e = .returned v ∧ Went w w' b S T L L' ∧ Dir w' b T L'
theorem new_is2 (n : Int) (w : World) : Calls Tryz.prog 17 #[.int .i64 n] w fun e w' => ∃ b L, e = .returned (.pointer (some ⟨b, 0, none⟩)) ∧ FsAt w' b (emptyS (roomI n)) L ∧ Below w.heap.size w w' ∧ (∀ k, mods b (emptyS (roomI n)) L k → w.heap.size ≤ k) ∧ ∃ bm, L.bn = some bm := by
  have hf := fs_made w w.heap.size rfl
  have hB := ((Below.refl w.heap.size w).alloc (Nat.le_refl _) (.map #[] 0)).alloc (by simp) (.cells (headV (emptyS 0) (emptyL w.heap.size)) 79)
  have hmm := @run_makeMap Tryz.prog
  have kl := limit_is (w.heap.size + 1) (emptyS 0) (emptyL w.heap.size) n _ hf
  have HF := Lib.hid hf
  have HB := Lib.hid hB
  have HM := Lib.hid (mods_made w.heap.size)
  clear hf hB
  go_enter Tryz.func17, Tryz.ntmps17
  go_wp2_with (go_at_call 27; (refine kl.mono ?_); rintro e w1 ⟨rfl, hW⟩; (have HW := Lib.hid hW); clear hW kl)
  go_ret
  refine ⟨_, _, rfl, HW.out.at_, HB.out.trans (HW.out.frm.below HB.out.size HM.out), fun k hk => ?_, _, rfl⟩
  rcases HW.out.sub k hk with h | h
  · exact HM.out k h
  · exact Nat.le_trans HB.out.size h
theorem new_dir (n : Int) (w : World) : Calls Tryz.prog 17 #[.int .i64 n] w fun e w' => ∃ b L, e = .returned (.pointer (some ⟨b, 0, none⟩)) ∧ Dir w' b (emptyS (roomI n)) L ∧ Below w.heap.size w w' ∧ ∀ k, mods b (emptyS (roomI n)) L k → w.heap.size ≤ k :=
  (new_is2 n w).mono fun _ _ ⟨b, L, h1, h2, h3, h4, h5⟩ => ⟨b, L, h1, ⟨h2, h5, Whole.empty (roomI_in n)⟩, h3, h4⟩
theorem create_dir {b : Nat} {S : FS} {L : Lay} {w : World} (n : ByteArray) (h : Dir w b S L) (hchg : S.chg.length ≤ 1000000) (hn : n.size ≤ maxLen) : Calls Tryz.prog 84 #[.pointer (some ⟨b, 0, none⟩), .string n] w fun e w' => ∃ q, w.heap.size ≤ q ∧ Turn b S (createS S n q).2 L (.int .i64 (createS S n q).1) w e w' := by
  obtain ⟨bm, hb⟩ := h.bn
  refine (create_is b bm S L n w h.at_ hb h.whole.sane hchg hn).mono ?_
  rintro e w' ⟨q, L', hq, he, hW, hn⟩
  exact ⟨q, hq, L', he, hW, hW.at_, ⟨bm, hn.trans hb⟩, h.whole.create (h.at_.fresh_id hq)⟩
theorem append_dir {b : Nat} {S : FS} {L : Lay} {w : World} (n t : ByteArray) (h : Dir w b S L) (hn : n.size ≤ maxLen) (ht : t.size ≤ 1099511627776) : Calls Tryz.prog 60 #[.pointer (some ⟨b, 0, none⟩), .string n, .string t] w (Turn b S (appendS S n t).2 L (.int .i64 (appendS S n t).1) w) := by
  obtain ⟨bm, hb⟩ := h.bn
  refine (append_is b S L n t w h.at_ h.whole.sane hn ht).mono ?_
  rintro e w' ⟨L', he, hW, hn⟩
  exact ⟨L', he, hW, hW.at_, ⟨bm, hn.trans hb⟩, h.whole.append⟩
theorem sync_dir {b : Nat} {S : FS} {L : Lay} {w : World} (n : ByteArray) (h : Dir w b S L) (hn : n.size ≤ maxLen) : Calls Tryz.prog 68 #[.pointer (some ⟨b, 0, none⟩), .string n] w (Turn b S (syncS S n).2 L (.int .i64 (syncS S n).1) w) := by
  obtain ⟨bm, hb⟩ := h.bn
  refine (sync_is b S L n w h.at_ h.whole.sane hn).mono ?_
  rintro e w' ⟨L', he, hW, hn⟩
  exact ⟨L', he, hW, hW.at_, ⟨bm, hn.trans hb⟩, h.whole.sync⟩
theorem delete_dir {b : Nat} {S : FS} {L : Lay} {w : World} (n : ByteArray) (h : Dir w b S L) (hchg : S.chg.length ≤ 1000000) (hn : n.size ≤ maxLen) : Calls Tryz.prog 88 #[.pointer (some ⟨b, 0, none⟩), .string n] w (Turn b S (deleteS S n).2 L (.int .i64 (deleteS S n).1) w) := by
  obtain ⟨bm, hb⟩ := h.bn
  refine (delete_is b bm S L n w h.at_ hb h.whole.sane hchg hn).mono ?_
  rintro e w' ⟨L', he, hW, hn⟩
  exact ⟨L', he, hW, hW.at_, ⟨bm, hn.trans hb⟩, h.whole.delete⟩
theorem syncdir_dir {b : Nat} {S : FS} {L : Lay} {w : World} (h : Dir w b S L) : Calls Tryz.prog 57 #[.pointer (some ⟨b, 0, none⟩)] w (Turn b S (syncDirS S).2 L (.int .i64 (syncDirS S).1) w) := by
  obtain ⟨bm, hb⟩ := h.bn
  refine (syncdir_is b bm S L w h.at_ hb h.whole.sane).mono ?_
  rintro e w' ⟨L', he, hW, hn⟩
  exact ⟨L', he, hW, hW.at_, ⟨bm, hn.trans hb⟩, h.whole.syncdir⟩
theorem crash_dir {b : Nat} {S : FS} {L : Lay} {w : World} (v : Value) (l : List Int) (h : FsAt w b S L) (hw : Whole S) (hchg : S.chg.length ≤ 1000000) (hl : ∀ W, Frm (mods b S L) w W → Is W v l) : Calls Tryz.prog 35 #[.pointer (some ⟨b, 0, none⟩), v] w (Turn b S (crashS S l) L (.tuple #[]) w) := by
  refine (crash_is b S L v l w h hw.good hchg hl).mono ?_
  rintro e w' ⟨L', he, hW, hn⟩
  exact ⟨L', he, hW, hW.at_, Option.ne_none_iff_exists'.1 hn, hw.crash l⟩
theorem arm_dir {b : Nat} {S : FS} {L : Lay} {w : World} (n : Int) (h : Dir w b S L) (hn : n ≤ 9223372036854775807) : Calls Tryz.prog 28 #[.pointer (some ⟨b, 0, none⟩), .int .i64 n] w (Turn b S { S with armed := true, left := max n 0 } L (.tuple #[]) w) := by
  refine (arm_is b S L n w h.at_).mono ?_
  rintro e w' ⟨he, hW⟩
  exact ⟨L, he, hW, hW.at_, h.bn, h.whole.head rfl rfl rfl rfl h.whole.sane.room (by dsimp only; omega)⟩
theorem limit_dir {b : Nat} {S : FS} {L : Lay} {w : World} (n : Int) (h : Dir w b S L) : Calls Tryz.prog 27 #[.pointer (some ⟨b, 0, none⟩), .int .i64 n] w (Turn b S { S with room := roomI n } L (.tuple #[]) w) := by
  refine (limit_is b S L n w h.at_).mono ?_
  rintro e w' ⟨he, hW⟩
  exact ⟨L, he, hW, hW.at_, h.bn, h.whole.head rfl rfl rfl rfl (roomI_in n) h.whole.sane.left⟩
theorem names_dir {b : Nat} {S : FS} {L : Lay} {w : World} (h : Dir w b S L) : Calls Tryz.prog 33 #[.pointer (some ⟨b, 0, none⟩)] w (NDone (S.now.map (·.1)) w) := by
  obtain ⟨bm, hb⟩ := h.bn
  exact pnames_is b S L w h.at_ h.whole.sane bm hb
theorem Dir.later {w w' : World} {b : Nat} {S : FS} {L : Lay} (h : Dir w b S L) (k : Below w.heap.size w w') : Dir w' b S L := ⟨h.at_.later k, h.bn, h.whole⟩
/-- Picks that stand in the text. -/
theorem lit_keep {w : World} {b c : Nat} {S : FS} {L : Lay} {cs : Array Value} {l : List Int} {n m : Nat} (h : FsAt w b S L) (hc : w.heap[c]? = some (.cells cs 3)) (hI : Is w (.slice (some ⟨c, 0, none⟩) n m) l) : ∀ W, Frm (mods b S L) w W → Is W (.slice (some ⟨c, 0, none⟩) n m) l := fun W k =>
  hI.keep (fun b' off e hb => by
    injection e with e _ _
    injection e with e
    injection e with e _ _
    subst e
    exact k.block _ hb (h.not hc (by decide) (by decide) (by decide) (by decide))) k.size
theorem lit_is (w : World) (xs : List Int) (hw : ∀ n ∈ xs, -9223372036854775808 ≤ n ∧ n ≤ 9223372036854775807) (hl : xs.length ≤ 100) : Is (w.alloc (.cells (xs.map (fun n => Value.int .i64 n)).toArray 3)) (.slice (some ⟨w.heap.size, 0, none⟩) xs.length xs.length) xs :=
  ⟨⟨_, _, rfl, Or.inr ⟨w.heap.size, 0, rfl, by simp, fun j hj => by simp [hj]⟩⟩, hw, by omega⟩
abbrev Apt (b : Nat) (S : FS) (L : Lay) (b2 : Nat) (S2 : FS) (L2 : Lay) : Prop := ∀ i, mods b S L i → ¬ mods b2 S2 L2 i
theorem Apt.symm {b b2 : Nat} {S S2 : FS} {L L2 : Lay} (h : Apt b S L b2 S2 L2) : Apt b2 S2 L2 b S L := fun i h2 h1 => h i h1 h2
theorem Apt.next {w w' : World} {b b2 : Nat} {S S2 S2' : FS} {L L2 L2' : Lay} (h : FsAt w b S L) (k : Went w w' b2 S2 S2' L2 L2') (hd : Apt b S L b2 S2 L2) : Apt b S L b2 S2' L2' := fun i hi h2 => by
  rcases k.sub i h2 with h3 | h3
  · exact hd i hi h3
  · have := h.room hi; omega
theorem Below.went {B : Nat} {w0 w w' : World} {b : Nat} {S S' : FS} {L L' : Lay} (h : Below B w0 w) (k : Went w w' b S S' L L') (hs : B ≤ w.heap.size) (lo : ∀ i, mods b S L i → B ≤ i) : Below B w0 w' :=
  ⟨k.frm.os.trans h.os, k.frm.tape.trans h.tape, k.frm.output.trans h.output, Nat.le_trans h.size k.frm.size, fun i hi => (k.frm.block i (Nat.lt_of_lt_of_le hi hs) (fun hm => by have := lo i hm; omega)).trans (h.block i hi)⟩
/-- Three directories. -/
structure Three (w0 w : World) (b1 : Nat) (S1 : FS) (L1 : Lay) (b2 : Nat) (S2 : FS) (L2 : Lay) (b3 : Nat) (S3 : FS) (L3 : Lay) : Prop where
  d1 : Dir w b1 S1 L1
  d2 : Dir w b2 S2 L2
  d3 : Dir w b3 S3 L3
  a12 : Apt b1 S1 L1 b2 S2 L2
  a13 : Apt b1 S1 L1 b3 S3 L3
  a23 : Apt b2 S2 L2 b3 S3 L3
  lo1 : ∀ i, mods b1 S1 L1 i → w0.heap.size ≤ i
  lo2 : ∀ i, mods b2 S2 L2 i → w0.heap.size ≤ i
  lo3 : ∀ i, mods b3 S3 L3 i → w0.heap.size ≤ i
  bel : Below w0.heap.size w0 w
theorem Three.rot {w0 w : World} {b1 : Nat} {S1 : FS} {L1 : Lay} {b2 : Nat} {S2 : FS} {L2 : Lay} {b3 : Nat} {S3 : FS} {L3 : Lay} (h : Three w0 w b1 S1 L1 b2 S2 L2 b3 S3 L3) : Three w0 w b2 S2 L2 b3 S3 L3 b1 S1 L1 :=
  ⟨h.d2, h.d3, h.d1, h.a23, h.a12.symm, h.a13.symm, h.lo2, h.lo3, h.lo1, h.bel⟩
theorem Three.below {w0 w w' : World} {b1 : Nat} {S1 : FS} {L1 : Lay} {b2 : Nat} {S2 : FS} {L2 : Lay} {b3 : Nat} {S3 : FS} {L3 : Lay} (h : Three w0 w b1 S1 L1 b2 S2 L2 b3 S3 L3) (k : Below w.heap.size w w') : Three w0 w' b1 S1 L1 b2 S2 L2 b3 S3 L3 :=
  ⟨h.d1.later k, h.d2.later k, h.d3.later k, h.a12, h.a13, h.a23, h.lo1, h.lo2, h.lo3, bel_next h.bel k⟩
theorem Three.one {w0 w w' : World} {b1 : Nat} {S1 S' : FS} {L1 L' : Lay} {b2 : Nat} {S2 : FS} {L2 : Lay} {b3 : Nat} {S3 : FS} {L3 : Lay} (h : Three w0 w b1 S1 L1 b2 S2 L2 b3 S3 L3) (k : Went w w' b1 S1 S' L1 L') (hd : Dir w' b1 S' L') : Three w0 w' b1 S' L' b2 S2 L2 b3 S3 L3 :=
  ⟨hd, ⟨h.d2.at_.beside h.d1.at_ k h.a12.symm, h.d2.bn, h.d2.whole⟩, ⟨h.d3.at_.beside h.d1.at_ k h.a13.symm, h.d3.bn, h.d3.whole⟩, (Apt.next h.d2.at_ k h.a12.symm).symm, (Apt.next h.d3.at_ k h.a13.symm).symm, h.a23, fun i hi => by
    rcases k.sub i hi with h3 | h3
    · exact h.lo1 i h3
    · exact Nat.le_trans h.bel.size h3, h.lo2, h.lo3, Below.went h.bel k h.bel.size h.lo1⟩
theorem Three.made {w0 w1 w2 w3 : World} {b1 : Nat} {S1 : FS} {L1 : Lay} {b2 : Nat} {S2 : FS} {L2 : Lay} {b3 : Nat} {S3 : FS} {L3 : Lay} (h1 : Dir w1 b1 S1 L1) (k1 : Below w0.heap.size w0 w1) (l1 : ∀ i, mods b1 S1 L1 i → w0.heap.size ≤ i) (h2 : Dir w2 b2 S2 L2) (k2 : Below w1.heap.size w1 w2) (l2 : ∀ i, mods b2 S2 L2 i → w1.heap.size ≤ i) (h3 : Dir w3 b3 S3 L3) (k3 : Below w2.heap.size w2 w3) (l3 : ∀ i, mods b3 S3 L3 i → w2.heap.size ≤ i) : Three w0 w3 b1 S1 L1 b2 S2 L2 b3 S3 L3 :=
  ⟨(h1.later k2).later k3, h2.later k3, h3, fun i a b => by have := h1.at_.room a; have := l2 i b; omega, fun i a b => by have := h1.at_.room a; have := l3 i b; have := k2.size; omega, fun i a b => by have := h2.at_.room a; have := l3 i b; omega, l1, fun i a => Nat.le_trans k1.size (l2 i a), fun i a => Nat.le_trans (Nat.le_trans k1.size k2.size) (l3 i a), bel_next (bel_next k1 k2) k3⟩
end Go.Proofs.YteijmjbiaffcmaaGreatDoor.Fi

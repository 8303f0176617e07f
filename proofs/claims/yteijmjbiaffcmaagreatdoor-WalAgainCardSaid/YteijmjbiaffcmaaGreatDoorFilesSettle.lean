/- Create, Delete, SyncDir. -/
import Derived.Test.YteijmjbiaffcmaaGreatDoorFilesOps
import Derived.Maps.OwnSet
set_option maxRecDepth 20000
set_option linter.unusedSimpArgs false
namespace Go.Proofs.YteijmjbiaffcmaaGreatDoor.Fi
open Go.RowKit Go.Maps Go.Shelf

def settleS (S : FS) : FS := { S with firm := S.now, chg := [] }
def settleL (L : Lay) (g : Nat) : Lay := { L with bf := some g, vc := .slice none 0 0, cs := [] }
theorem FsAt.settled {w w1 : World} {b g bm : Nat} {S : FS} {L : Lay} (h : FsAt w b S L) (hbn : L.bn = some bm) (k : Below w.heap.size w w1) (hm : MapIs w1 g S.now) (hg : w.heap.size ≤ g) :
    Went w ((w1.setCell ⟨b, 2, none⟩ (.map (some g))).setCell ⟨b, 3, none⟩ (.slice none 0 0)) b S (settleS S) L (settleL L g) ∧ w1.heap[b]? = some (.cells (headV S L) 79) := by
  have h1 := h.later k
  obtain ⟨w2, hw2⟩ : ∃ w2, (w1.setCell ⟨b, 2, none⟩ (.map (some g))).setCell ⟨b, 3, none⟩ (.slice none 0 0) = w2 := ⟨_, rfl⟩
  have hset : ∀ k, k ≠ b → w2.heap[k]? = w1.heap[k]? := fun k hk => by
    rw [← hw2, heap_setCell_other _ ⟨b, 3, none⟩ k _ hk, heap_setCell_other _ ⟨b, 2, none⟩ k _ hk]
  have hhd : w2.heap[b]? = some (.cells (headV (settleS S) (settleL L g)) 79) := by
    rw [← hw2]
    exact heap_setCell_same _ b 3 _ _ _ (heap_setCell_same w1 b 2 _ _ _ h1.hb)
  have hsz : w2.heap.size = w1.heap.size := by rw [← hw2]; simp
  have hos : w2.os = w1.os ∧ w2.tape = w1.tape ∧ w2.output = w1.output := by rw [← hw2]; exact ⟨rfl, rfl, rfl⟩
  rw [hw2]
  have hsrc : ∀ {p : Option Nat} {M : FM}, SrcIs w1 p M → SrcIs w2 p M := fun {p M} hs => hs.of fun i e => by
    obtain ⟨es, c, hh⟩ := hs.lt e
    exact hset i (map_ne hh h1.hb)
  have hgb : g ≠ b := by have := h.room (Or.inl rfl); omega
  have hbmg : bm < w.heap.size := h.room (Or.inr (Or.inl hbn))
  refine ⟨⟨⟨hhd, hsrc h1.now, Or.inr ⟨g, rfl, hm.of_heap (hset g hgb)⟩, Or.inr (fun e => by
    rw [show (settleL L g).bn = some bm from hbn] at e
    injection e with e
    omega), World.ownsRow_nil _ _ _ _, rfl, fun p hp => (by simp [settleS] at hp), fun f hf => ?_, h1.ap⟩, ⟨hos.1.trans k.os, hos.2.1.trans k.tape, hos.2.2.trans k.output, by rw [hsz]; exact k.size, fun i hi hn => (hset i (fun e => hn (Or.inl e))).trans (k.block i hi)⟩, fun i hi => ?_⟩, h1.hb⟩
  · obtain ⟨g1, g2⟩ := h1.fil f hf
    refine ⟨(hset f.q (kinds_ne g1 h1.hb (by decide))).trans g1, row_of g2 fun i e => ?_⟩
    obtain ⟨cur, hh⟩ := row_heap g2 e
    exact hset i (kinds_ne hh h1.hb (by decide))
  · rcases hi with hi | hi | hi | hi | hi
    · exact Or.inl (Or.inl hi)
    · exact Or.inl (Or.inr (Or.inl hi))
    · injection hi with hi; exact Or.inr (by omega)
    · cases hi
    · exact Or.inl (Or.inr (Or.inr (Or.inr (Or.inr hi))))
theorem settle_is (b bm : Nat) (S : FS) (L : Lay) (w : World) (h : FsAt w b S L) (hbn : L.bn = some bm) : Calls Tryz.prog 66 #[.pointer (some ⟨b, 0, none⟩)] w fun e w' => ∃ g, e = .returned (.tuple #[]) ∧ Went w w' b S (settleS S) L (settleL L g) := by
  obtain ⟨-, c1, -⟩ := h.cells
  rw [hbn] at c1
  have hm : MapIs w bm S.now := by
    rcases h.now with ⟨e, _⟩ | ⟨b2, e, hm⟩
    · rw [hbn] at e; cases e
    · rw [hbn] at e; injection e with e; subst e; exact hm
  have k := clone_is bm S.now w hm
  have H := Lib.hid h
  have HBN := Lib.hid hbn
  clear h hm hbn
  go_enter Tryz.func66, Tryz.ntmps66
  go_wp2_with (go_at_call 96; (with_reducible refine k.mono ?_); rintro e w1 ⟨rfl, hM, hB, hz⟩; (obtain ⟨hW, hb1⟩ := H.out.settled HBN.out hB hM (Nat.le_refl _)); (have y2 : w1.cell? ⟨b, 2, none⟩ = some (.map L.bf) := cell_of hb1); (have y3 : w1.cell? ⟨b, 3, none⟩ = some L.vc := cell_of hb1); (have f2 : w1.frozen? ⟨b, 2, none⟩ = false := frozen_of hb1); (have f3 : w1.frozen? ⟨b, 3, none⟩ = false := frozen_of hb1); (have HW := Lib.hid hW); clear hM hB hz hW hb1 k c1)
  go_end0
  exact ⟨_, rfl, HW.out⟩
theorem nil_ss (w : World) : Ss w (.slice none 0 0) [] := Ss.nil w
theorem lit_ss (w : World) (s : ByteArray) (hs : s.size ≤ maxLen) : Ss (w.alloc (.cells #[.string s] 9)) (.slice (some ⟨w.heap.size, 0, none⟩) 1 1) [s] :=
  ⟨⟨_, _, rfl, Or.inr ⟨w.heap.size, 0, rfl, by simp, fun j hj => by
    match j, hj with
    | 0, _ => simp⟩⟩, fun x hx => by rw [List.mem_singleton] at hx; subst hx; exact hs, by simp⟩
def syncDirS (S : FS) : Int × FS := if S.on = false then (14, S) else if (stepS S).1 then (0, settleS (stepS S).2) else (14, (stepS S).2)
theorem syncdir_is (b bm : Nat) (S : FS) (L : Lay) (w : World) (h : FsAt w b S L) (hbn : L.bn = some bm) (hS : Sane S) : Calls Tryz.prog 57 #[.pointer (some ⟨b, 0, none⟩)] w fun e w' => ∃ L', e = .returned (.int .i64 (syncDirS S).1) ∧ Went w w' b S (syncDirS S).2 L L' ∧ L'.bn = L.bn := by
  have kc := check_is b S L (.slice none 0 0) [] w h (Ss.nil w)
  have ks := step_is b S L w h hS.left
  have H := Lib.hid h
  obtain ⟨r, hr⟩ : ∃ r, syncDirS S = r := ⟨_, rfl⟩
  rw [hr]
  unfold checkS at kc
  unfold syncDirS at hr
  cases hon : S.on with
  | false =>
    rw [hon, if_pos rfl] at hr kc
    clear ks h
    go_enter Tryz.func57, Tryz.ntmps57
    go_wp2_with (go_at_call 90; (with_reducible refine kc.mono ?_); rintro e w1 ⟨rfl, rfl⟩)
    go_ret
    exact ⟨L, by rw [← hr]; rfl, by rw [← hr]; exact Went.refl H.out, rfl⟩
  | true =>
    rw [hon, if_neg (by decide)] at hr kc
    rw [show ([] : List ByteArray).all okS = true from rfl, if_pos rfl] at kc
    obtain ⟨so, hso⟩ : ∃ so, stepS S = so := ⟨_, rfl⟩
    rw [hso] at hr ks
    obtain ⟨ok, S2⟩ := so
    cases ok with
    | false =>
      have HE := Lib.hid (show (14, S2) = r from hr)
      have kt : tell (false, S2).1 = 14 := rfl
      rw [kt] at ks
      clear hr h hso
      go_enter Tryz.func57, Tryz.ntmps57
      go_wp2_with (first
        | (go_at_call 90; (with_reducible refine kc.mono ?_); rintro e w1 ⟨rfl, rfl⟩)
        | (go_at_call 91; (with_reducible refine ks.mono ?_); rintro e w2 ⟨rfl, hW⟩; (have HW := Lib.hid hW); clear hW ks))
      go_ret
      exact ⟨L, by rw [← HE.out]; rfl, by rw [← HE.out]; exact HW.out, rfl⟩
    | true =>
      have HE := Lib.hid (show (0, settleS S2) = r from hr)
      have kt : tell (true, S2).1 = 0 := rfl
      rw [kt] at ks
      clear hr h hso
      go_enter Tryz.func57, Tryz.ntmps57
      go_wp2_with (first
        | (go_at_call 90; (with_reducible refine kc.mono ?_); rintro e w1 ⟨rfl, rfl⟩)
        | (go_at_call 91; (with_reducible refine ks.mono ?_); rintro e w2 ⟨rfl, hW⟩; (have k3 := settle_is b bm S2 L w2 hW.at_ hbn); (have HW := Lib.hid hW); clear hW ks)
        | (go_at_call 66; (with_reducible refine k3.mono ?_); rintro e w3 ⟨g, rfl, hW3⟩; (have HW3 := Lib.hid hW3); clear hW3 k3))
      go_ret
      exact ⟨settleL L g, by rw [← HE.out]; rfl, by rw [← HE.out]; exact HW.out.trans HW3.out, rfl⟩
def deleteS (S : FS) (n : ByteArray) : Int × FS :=
  match findS S n with
  | (some _, _) => stepD (doS S (.del (nm n)))
  | (none, e) => (e, S)
theorem find_ok {S : FS} {n : ByteArray} {q : Nat} {e : Int} (h : findS S n = (some q, e)) : okS n = true := by
  unfold findS at h
  split at h
  · cases h
  · rename_i h0
    unfold checkS at h0
    split at h0
    · exact absurd (by decide) h0
    · split at h0
      · rename_i h1; simpa using h1
      · exact absurd (by decide) h0
theorem ok_size {s : ByteArray} (h : okS s = true) : s.size ≤ 20 := by
  unfold okS okN at h
  rw [nm_len] at h
  simp at h
  omega
set_option maxHeartbeats 1000000 in
theorem delete_is (b bm : Nat) (S : FS) (L : Lay) (n : ByteArray) (w : World) (h : FsAt w b S L) (hbn : L.bn = some bm) (hS : Sane S) (hchg : S.chg.length ≤ 1000000) (hn : n.size ≤ maxLen) : Calls Tryz.prog 88 #[.pointer (some ⟨b, 0, none⟩), .string n] w fun e w' => ∃ L', e = .returned (.int .i64 (deleteS S n).1) ∧ Went w w' b S (deleteS S n).2 L L' ∧ L'.bn = L.bn := by
  have hB0 := (Below.refl w.heap.size w).alloc (Nat.le_refl _) (.cells #[.string n] 9)
  have kf := find_is b S L n _ (h.later hB0) hn
  have hbox : (w.alloc (.cells #[.string n] 9)).heap[w.heap.size]? = some (.cells #[.string n] 9) := heap_alloc_new w _
  have HS := Lib.hid hS
  have H := Lib.hid h
  have HB0 := Lib.hid hB0
  have HBOX := Lib.hid hbox
  obtain ⟨r, hr⟩ : ∃ r, deleteS S n = r := ⟨_, rfl⟩
  have HR := Lib.hid hr
  rw [hr]
  rcases hfe : findS S n with ⟨fo, e⟩
  rw [hfe] at kf
  have HFE := Lib.hid hfe
  clear h hS hr hfe hbox hB0
  cases fo with
  | none =>
    have HE := Lib.hid (show (e, S) = r by rw [← HR.out]; unfold deleteS; rw [HFE.out])
    have hq : (e != 0) = true := by simpa using find_none HFE.out
    unfold ptrV at kf
    go_enter Tryz.func88, Tryz.ntmps88
    go_wp2_with (go_at_call 62; (with_reducible refine kf.mono ?_); rintro e w1 ⟨rfl, hB⟩; (have HB := Lib.hid (HB0.out.trans (hB.mono (by simp)))); clear hB kf)
    go_ret
    exact ⟨L, by rw [← HE.out]; rfl, by rw [← HE.out]; exact Went.below H.out HB.out, rfl⟩
  | some q =>
    obtain ⟨rfl, hlk⟩ := find_some HFE.out
    have HE := Lib.hid (show stepD (doS S (.del (nm n))) = r by rw [← HR.out]; unfold deleteS; rw [HFE.out])
    have HOK := Lib.hid (show (Chg.del (nm n)).okM S.now by show look S.now (nm n) ≠ none; rw [hlk]; intro e; cases e)
    have HN20 := Lib.hid (ok_size (find_ok HFE.out))
    have HBN := Lib.hid hbn
    unfold ptrV at kf
    clear hlk hbn
    go_enter Tryz.func88, Tryz.ntmps88
    go_wp2_with (first
      | (go_at_call 62; (with_reducible refine kf.mono ?_); rintro e w1 ⟨rfl, hB⟩; (have HB := Lib.hid (HB0.out.trans (hB.mono (by simp)))); (have kc := change_del_is b bm S L (nm n) (w.heap.size, w.heap.size) w1 (H.out.later HB.out) HBN.out HS.out.len hchg HS.out.left ⟨n, rfl, HN20.out, (hB.block w.heap.size (by simp)).trans HBOX.out⟩ HOK.out); clear hB kf)
      | (go_at_call 110; (refine kc.mono ?_); rintro e w2 ⟨L', rfl, hW, h1, h2⟩; (have HW := Lib.hid hW); (have H1 := Lib.hid h1); clear hW h1 h2 kc))
    go_ret
    exact ⟨L', by rw [← HE.out]; rfl, by rw [← HE.out]; exact (Went.below H.out HB.out).trans HW.out, H1.out⟩
end Go.Proofs.YteijmjbiaffcmaaGreatDoor.Fi

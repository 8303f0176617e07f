/- Rename. -/
import Derived.Test.YtbgjcopgipganaaFilesNilWalk
set_option maxRecDepth 20000
set_option linter.unusedSimpArgs false
namespace Go.Proofs.Ytbgjcopgipganaa
open Go.RowKit Go.Maps Go.Shelf

def find2S (S : FS) (s t : ByteArray) : Option Nat × Int := if checkS S [t, s] ≠ 0 then (none, checkS S [t, s]) else match look S.now (nm s) with | some q => (some q, 0) | none => (none, 12)
theorem find2_is (b : Nat) (S : FS) (L : Lay) (s t : ByteArray) (W : World) (h : FsAt W b S L) (hs : s.size ≤ maxLen) (ht : t.size ≤ maxLen) : Calls Try.prog 47 #[.pointer (some ⟨b, 0, none⟩), .string s, .slice (some ⟨W.heap.size, 0, none⟩) 1 1] (W.alloc (.cells #[.string t] 9)) fun e w' => e = .returned (.tuple #[ptrV (find2S S s t).1, .int .i64 (find2S S s t).2]) ∧ Below W.heap.size W w' := by
  have kc := fun v w (h : FsAt w b S L) hs => check_is b S L v [t, s] w h hs
  have HL := Lib.hid (fun w (k : Below W.heap.size W w) => look_src (h.now.later k) s hs)
  have HC1 := Lib.hid (fun w (k : Below W.heap.size W w) => (h.later k).cells.2.1)
  have HF := Lib.hid h
  have hone : ∀ x ∈ [t, s], x.size ≤ maxLen := fun x hx => by
    rcases List.mem_cons.1 hx with rfl | hx
    · exact ht
    · rw [List.mem_singleton] at hx; subst hx; exact hs
  have HONE := Lib.hid hone
  obtain ⟨fe, hfe⟩ : ∃ fe, find2S S s t = fe := ⟨_, rfl⟩
  obtain ⟨e, he⟩ : ∃ e, checkS S [t, s] = e := ⟨_, rfl⟩
  simp only [he] at kc
  rw [hfe]
  have HFE := Lib.hid hfe
  have HE := Lib.hid he
  clear h hs ht hone hfe he
  by_cases he0 : e = 0
  · subst he0
    obtain ⟨r, hr⟩ : ∃ r, look S.now (nm s) = r := ⟨_, rfl⟩
    rw [hr] at HL
    have HR := Lib.hid hr
    clear hr
    cases r with
    | none =>
      have HT := Lib.hid (show (none, 12) = fe by rw [← HFE.out]; unfold find2S; rw [if_neg (by rw [HE.out]; decide), HR.out])
      go_enter Try.func47, Try.ntmps47
      go_wp2_with (first
        | (at_builtin; refine wpList_name1 (w := W) rfl _ _ rfl s t rfl rfl ?_; intro v1 w1 hr1 hb1; (have kc1 := kc v1 w1 (HF.out.later hb1) (hr1.ss HONE.out (by simp))); (have HB1 := Lib.hid hb1); clear hr1 hb1 kc)
        | (go_at_call 39; (with_reducible refine kc1.mono ?_); rintro e w2 ⟨rfl, rfl⟩; (have c1 := HC1.out _ HB1.out); (have hl := HL.out _ HB1.out); (unfold ptrV at hl); clear kc1))
      go_ret2
      exact ⟨by rw [← HT.out]; rfl, HB1.out⟩
    | some q =>
      have HT := Lib.hid (show (some q, 0) = fe by rw [← HFE.out]; unfold find2S; rw [if_neg (by rw [HE.out]; decide), HR.out])
      go_enter Try.func47, Try.ntmps47
      go_wp2_with (first
        | (at_builtin; refine wpList_name1 (w := W) rfl _ _ rfl s t rfl rfl ?_; intro v1 w1 hr1 hb1; (have kc1 := kc v1 w1 (HF.out.later hb1) (hr1.ss HONE.out (by simp))); (have HB1 := Lib.hid hb1); clear hr1 hb1 kc)
        | (go_at_call 39; (with_reducible refine kc1.mono ?_); rintro e w2 ⟨rfl, rfl⟩; (have c1 := HC1.out _ HB1.out); (have hl := HL.out _ HB1.out); (unfold ptrV at hl); clear kc1))
      go_ret2
      exact ⟨by rw [← HT.out]; rfl, HB1.out⟩
  · have HT := Lib.hid (show (none, e) = fe by rw [← HFE.out]; unfold find2S; rw [if_pos (by rw [HE.out]; exact he0), HE.out])
    have hq : (e != 0) = true := by simpa using he0
    clear he0
    go_enter Try.func47, Try.ntmps47
    go_wp2_with (first
      | (at_builtin; refine wpList_name1 (w := W) rfl _ _ rfl s t rfl rfl ?_; intro v1 w1 hr1 hb1; (have kc1 := kc v1 w1 (HF.out.later hb1) (hr1.ss HONE.out (by simp))); (have HB1 := Lib.hid hb1); clear hr1 hb1 kc)
      | (go_at_call 39; (with_reducible refine kc1.mono ?_); rintro e w2 ⟨rfl, rfl⟩; clear kc1))
    go_ret2
    exact ⟨by rw [← HT.out]; rfl, HB1.out⟩
theorem find2_some {S : FS} {s t : ByteArray} {q : Nat} {e : Int} (h : find2S S s t = (some q, e)) : e = 0 ∧ look S.now (nm s) = some q ∧ okS s = true ∧ okS t = true := by
  unfold find2S at h
  split at h
  · cases h
  · rename_i hc
    have hc0 := Decidable.not_not.1 hc
    unfold checkS at hc0
    split at hc0
    · exact absurd hc0 (by decide)
    · split at hc0
      · rename_i hall
        simp at hall
        split at h
        · rename_i q' hl
          injection h with h1 h2
          injection h1 with h1
          subst h1
          exact ⟨h2.symm, hl, hall.2, hall.1⟩
        · cases h
      · exact absurd hc0 (by decide)
theorem find2_none {S : FS} {s t : ByteArray} {e : Int} (h : find2S S s t = (none, e)) : e ≠ 0 := by
  unfold find2S at h
  split at h
  · rename_i hc
    injection h with _ h2
    rw [← h2]; exact hc
  · split at h
    · cases h
    · injection h with _ h2
      rw [← h2]; decide
def renameS (S : FS) (s t : ByteArray) : Int × FS :=
  match find2S S s t with
  | (some _, _) => stepD (doS S (.ren (nm s) (nm t)))
  | (none, e) => (e, S)
theorem box2 (w : World) (s t : ByteArray) : ((w.alloc (.cells #[.string s] 9)).alloc (.cells #[.string t] 9)).heap[w.heap.size]? = some (.cells #[.string s] 9) ∧ ((w.alloc (.cells #[.string s] 9)).alloc (.cells #[.string t] 9)).heap[w.heap.size + 1]? = some (.cells #[.string t] 9) := new_file w _ _ _ _
set_option maxHeartbeats 1000000 in
theorem rename_is (b bm : Nat) (S : FS) (L : Lay) (s t : ByteArray) (w : World) (h : FsAt w b S L) (hbn : L.bn = some bm) (hS : Sane S) (hchg : S.chg.length ≤ 1000000) (hs : s.size ≤ maxLen) (ht : t.size ≤ maxLen) : Calls Try.prog 20 #[.pointer (some ⟨b, 0, none⟩), .string s, .string t] w fun e w' => ∃ L', e = .returned (.int .i64 (renameS S s t).1) ∧ Went w w' b S (renameS S s t).2 L L' ∧ L'.bn = L.bn := by
  have hB0 := bel_next (bel_al w (.cells #[.string s] 9)) (bel_al _ (.cells #[.string t] 9))
  have kf := find2_is b S L s t _ (h.later hB0) hs ht
  have hz : ((w.alloc (.cells #[.string s] 9)).alloc (.cells #[.string t] 9)).heap.size = w.heap.size + 1 + 1 := by simp
  have hbx := box2 w s t
  rw [hz] at kf
  have HS := Lib.hid hS
  have H := Lib.hid h
  have HB0 := Lib.hid hB0
  have HBOX := Lib.hid hbx
  obtain ⟨r, hr⟩ : ∃ r, renameS S s t = r := ⟨_, rfl⟩
  have HR := Lib.hid hr
  rw [hr]
  rcases hfe : find2S S s t with ⟨fo, e⟩
  rw [hfe] at kf
  have HFE := Lib.hid hfe
  clear h hS hr hfe hbx hB0 hz hs ht
  cases fo with
  | none =>
    have HE := Lib.hid (show (e, S) = r by rw [← HR.out]; unfold renameS; rw [HFE.out])
    have hq : (e != 0) = true := by simpa using find2_none HFE.out
    unfold ptrV at kf
    go_enter Try.func20, Try.ntmps20
    go_wp2_with (go_at_call 47; (with_reducible refine kf.mono ?_); rintro e w1 ⟨rfl, hB⟩; (have HB := Lib.hid (HB0.out.trans (hB.mono (by omega)))); clear hB kf)
    go_ret
    exact ⟨L, by rw [← HE.out]; rfl, by rw [← HE.out]; exact Went.below H.out HB.out, rfl⟩
  | some q =>
    obtain ⟨rfl, hlk, ho1, ho2⟩ := find2_some HFE.out
    have HE := Lib.hid (show stepD (doS S (.ren (nm s) (nm t))) = r by rw [← HR.out]; unfold renameS; rw [HFE.out])
    have HOK := Lib.hid (show (Chg.ren (nm s) (nm t)).okM S.now by show look S.now (nm s) ≠ none; rw [hlk]; intro e; cases e)
    have HN1 := Lib.hid (ok_size ho1)
    have HN2 := Lib.hid (ok_size ho2)
    have HBN := Lib.hid hbn
    unfold ptrV at kf
    clear hlk hbn ho1 ho2
    go_enter Try.func20, Try.ntmps20
    go_wp2_with (first
      | (go_at_call 47; (with_reducible refine kf.mono ?_); rintro e w1 ⟨rfl, hB⟩; (have HB := Lib.hid (HB0.out.trans (hB.mono (by omega)))); (have kc := change_ren_is b bm S L (nm s) (nm t) (w.heap.size, w.heap.size + 1) w1 (H.out.later HB.out) HBN.out HS.out.len hchg HS.out.left ⟨⟨s, rfl, HN1.out, (hB.block w.heap.size (by omega)).trans HBOX.out.1⟩, ⟨t, rfl, HN2.out, (hB.block (w.heap.size + 1) (by omega)).trans HBOX.out.2⟩⟩ HOK.out); clear hB kf)
      | (go_at_call 40; (refine kc.mono ?_); rintro e w2 ⟨L', rfl, hW, h1, h2⟩; (have HW := Lib.hid hW); (have H1 := Lib.hid h1); clear hW h1 h2 kc))
    go_ret
    exact ⟨L', by rw [← HE.out]; rfl, by rw [← HE.out]; exact (Went.below H.out HB.out).trans HW.out, H1.out⟩
theorem ren_len {S : FS} (h : Srt S.now) {n t : Nm} {q : Nat} (hl : look S.now n = some q) : ((Chg.ren n t).doM S.now).length ≤ S.now.length := by
  unfold Chg.doM
  dsimp only
  rw [hl]
  dsimp only
  have h1 := put_len_le t q (delM n S.now)
  have h2 := del_len h hl
  omega
theorem Whole.rename {S : FS} (h : Whole S) {s t : ByteArray} : Whole (renameS S s t).2 := by
  unfold renameS
  split
  · rename_i q e hf
    obtain ⟨_, hl, _, ho⟩ := find2_some hf
    refine Whole.step (h.did ?_ ?_ trivial ?_)
    · show look S.now (nm s) ≠ none
      rw [hl]; simp
    · exact Nat.le_trans (ren_len h.sane.srt hl) h.sane.len
    · show (nm t).length ≤ 20
      rw [nm_len]; exact ok_size ho
  · exact h
theorem rename_dir {b : Nat} {S : FS} {L : Lay} {w : World} (s t : ByteArray) (h : Dir w b S L) (hchg : S.chg.length ≤ 1000000) (hs : s.size ≤ maxLen) (ht : t.size ≤ maxLen) : Calls Try.prog 20 #[.pointer (some ⟨b, 0, none⟩), .string s, .string t] w (Turn b S (renameS S s t).2 L (.int .i64 (renameS S s t).1) w) := by
  obtain ⟨bm, hb⟩ := h.bn
  refine (rename_is b bm S L s t w h.at_ hb h.whole.sane hchg hs ht).mono ?_
  rintro e w' ⟨L', he, hW, hn⟩
  exact ⟨L', he, hW, hW.at_, ⟨bm, hn.trans hb⟩, h.whole.rename⟩
end Go.Proofs.Ytbgjcopgipganaa

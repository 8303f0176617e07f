/- What a directory's methods keep. -/
import Derived.Test.YteijmjbiaffcmaaGreatDoorFilesCrash
set_option maxRecDepth 20000
set_option linter.unusedSimpArgs false
namespace Go.Proofs.YteijmjbiaffcmaaGreatDoor.Fi
open Go.RowKit Go.Maps Go.Shelf

/-- A directory as its methods leave it. -/
structure Whole (S : FS) : Prop where
  good : Good S
  now : S.now = playM S.chg S.firm
abbrev ids (S : FS) : List Nat := S.fil.map (·.q)
theorem Whole.sane {S : FS} (h : Whole S) : Sane S := h.good.sane
theorem Whole.head {S S' : FS} (h : Whole S) (e1 : S'.now = S.now) (e2 : S'.firm = S.firm) (e3 : S'.chg = S.chg) (e4 : S'.fil = S.fil) (hr : 0 ≤ S'.room ∧ S'.room ≤ 1099511627776) (hl : 0 ≤ S'.left ∧ S'.left ≤ 9223372036854775807) : Whole S' := by
  obtain ⟨⟨⟨a1, a2, a3, a4, a5, a6, a7⟩, b1, b2, b3, b4, b5, b6⟩, c1⟩ := h
  refine ⟨⟨⟨?_, ?_, ?_, ?_, ?_, hr, hl⟩, ?_, ?_, ?_, ?_, ?_, ?_⟩, ?_⟩
  · rw [e1]; exact a1
  · rw [e1]; exact a2
  · rw [e1, e4]; exact a3
  · rw [e4]; exact a4
  · rw [e4]; exact a5
  · rw [e2]; exact b1
  · rw [e3, e2]; exact b2
  · rw [e4, e2]; exact b3
  · rw [e3, e4]; exact b4
  · rw [e2]; exact b5
  · rw [e3]; exact b6
  · rw [e1, e3, e2]; exact c1
theorem Whole.step {S : FS} (h : Whole S) : Whole (stepS S).2 := by
  have hl := h.sane.left
  unfold stepS
  split
  · exact h
  · split
    · exact h.head rfl rfl rfl rfl h.sane.room (by dsimp only; omega)
    · exact h.head rfl rfl rfl rfl h.sane.room hl
theorem Whole.did {S : FS} (h : Whole S) {c : Chg} (hok : c.okM S.now) (hlen : (c.doM S.now).length ≤ 64) (hi : c.inI (ids S)) (hs : c.sz) : Whole (doS S c) := by
  obtain ⟨⟨⟨a1, a2, a3, a4, a5, a6, a7⟩, b1, b2, b3, b4, b5, b6⟩, c1⟩ := h
  refine ⟨⟨⟨doM_srt a1, hlen, doM_in a3 hi, a4, a5, a6, a7⟩, b1, ?_, b3, ?_, b5, ?_⟩, ?_⟩
  · exact b2.snoc (by rw [← c1]; exact hok) (by rw [← c1]; exact hlen)
  · intro d hd
    rcases List.mem_append.1 hd with hd | hd
    · exact b4 d hd
    · rw [List.mem_singleton] at hd; subst hd; exact hi
  · intro d hd
    rcases List.mem_append.1 hd with hd | hd
    · exact b6 d hd
    · rw [List.mem_singleton] at hd; subst hd; exact hs
  · show c.doM S.now = playM (S.chg ++ [c]) S.firm
    rw [play_snoc, ← c1]
theorem Whole.add {S : FS} (h : Whole S) {q : Nat} (hq : q ∉ ids S) : Whole (addS S q) := by
  obtain ⟨⟨⟨a1, a2, a3, a4, a5, a6, a7⟩, b1, b2, b3, b4, b5, b6⟩, c1⟩ := h
  have e : ids (addS S q) = ids S ++ [q] := by unfold ids addS; simp
  have hm : ∀ i, i ∈ ids S → i ∈ ids (addS S q) := fun i hi => by rw [e]; exact List.mem_append_left _ hi
  refine ⟨⟨⟨a1, a2, fun p hp => hm _ (a3 p hp), ?_, ?_, a6, a7⟩, b1, b2, fun p hp => hm _ (b3 p hp), ?_, b5, b6⟩, c1⟩
  · show (ids (addS S q)).Nodup
    rw [e, List.nodup_append]
    refine ⟨a4, by simp, fun a ha b hb => ?_⟩
    rw [List.mem_singleton] at hb; subst hb
    rintro rfl; exact hq ha
  · intro f hf
    rcases List.mem_append.1 hf with hf | hf
    · exact a5 f hf
    · rw [List.mem_singleton] at hf; subst hf; exact ⟨Nat.zero_le _, Nat.zero_le _⟩
  · intro c hc
    have := b4 c hc
    cases c with
    | mk n i => exact hm _ this
    | del n => trivial
    | ren n t => trivial
theorem Whole.upd {S : FS} (h : Whole S) {q k : Nat} {s : ByteArray} (hs : s.size ≤ 1099511627776) (hk : k ≤ s.size) : Whole (updS S q s k) := by
  obtain ⟨⟨⟨a1, a2, a3, a4, a5, a6, a7⟩, b1, b2, b3, b4, b5, b6⟩, c1⟩ := h
  have e : ids (updS S q s k) = ids S := updQ_ids _ _ _ _
  refine ⟨⟨⟨a1, a2, fun p hp => by show p.2 ∈ ids (updS S q s k); rw [e]; exact a3 p hp, ?_, ?_, a6, a7⟩, b1, b2, fun p hp => by show p.2 ∈ ids (updS S q s k); rw [e]; exact b3 p hp, fun c hc => ?_, b5, b6⟩, c1⟩
  · show (ids (updS S q s k)).Nodup
    rw [e]; exact a4
  · intro f hf
    rcases updQ_mem hf with ⟨rfl, _⟩ | ⟨hf, _⟩
    · exact ⟨hs, hk⟩
    · exact a5 f hf
  · have := b4 c hc
    show c.inI (ids (updS S q s k))
    rw [e]; exact this
theorem Whole.settle {S : FS} (h : Whole S) : Whole (settleS S) := by
  obtain ⟨⟨⟨a1, a2, a3, a4, a5, a6, a7⟩, b1, b2, b3, b4, b5, b6⟩, c1⟩ := h
  exact ⟨⟨⟨a1, a2, a3, a4, a5, a6, a7⟩, a1, a2, a3, fun c hc => by simp [settleS] at hc, (by rw [show (settleS S).firm = S.now from rfl, c1]; exact play_nice b5 b6), fun c hc => by simp [settleS] at hc⟩, rfl⟩
theorem Whole.empty {r : Int} (hr : 0 ≤ r ∧ r ≤ 1099511627776) : Whole (emptyS r) :=
  ⟨⟨⟨List.Pairwise.nil, by simp [emptyS], fun p hp => by simp [emptyS] at hp, by simp [emptyS], fun f hf => by simp [emptyS] at hf, hr, by simp [emptyS]⟩, List.Pairwise.nil, Nat.zero_le _, fun p hp => by simp [emptyS] at hp, fun p hp => by simp [emptyS] at hp, fun p hp => by simp [emptyS] at hp, fun p hp => by simp [emptyS] at hp⟩, rfl⟩
theorem roomI_in (n : Int) : 0 ≤ roomI n ∧ roomI n ≤ 1099511627776 := by unfold roomI; omega
theorem Whole.crash {S : FS} (h : Whole S) (l : List Int) : Whole (crashS S l) := by
  have g := h.good
  obtain ⟨k, hk⟩ : ∃ k, pickI l 0 S.chg.length = k := ⟨_, rfl⟩
  unfold crashS
  rw [hk]
  have e := cutAll_ids l ((namesK S k).map (·.2)) 0 S.fil
  exact ⟨⟨⟨g.srtK k, g.lenK k, by dsimp only; rw [e]; exact g.inK k, by dsimp only; rw [e]; exact g.sane.nd, cutAll_ok _ _ _ g.sane.sz, g.sane.room, g.sane.left⟩, g.srtK k, g.lenK k, by dsimp only; rw [e]; exact g.inK k, fun c hc => by simp at hc, g.niceK k, fun c hc => by simp at hc⟩, rfl⟩
/-- Create. -/
theorem Whole.create {S : FS} (h : Whole S) {n : ByteArray} {q : Nat} (hq : q ∉ ids S) : Whole (createS S n q).2 := by
  unfold createS
  split
  · exact h
  · rename_i hc
    split
    · exact h
    · rename_i hl
      split
      · exact h
      · rename_i h64
        have hn : look S.now (nm n) = none := by simpa using hl
        refine Whole.step (Whole.did (h.add hq) hn ?_ ?_ ?_)
        · show (putM (nm n) q S.now).length ≤ 64
          rw [put_len q hn]; omega
        · show q ∈ ids (addS S q)
          unfold ids addS; simp
        · show (nm n).length ≤ 20
          rw [nm_len]; exact ok_size (check_ok (Decidable.not_not.1 hc))
theorem szQ_le {S : FS} {n : Nm} {q : Nat} (h : look S.now n = some q) : szQ S.fil q ≤ usedS S := by
  have hm := look_mem h
  unfold usedS
  have : ∀ l : FM, (n, q) ∈ l → szQ S.fil q ≤ (l.map fun p => szQ S.fil p.2).sum := by
    intro l
    induction l with
    | nil => intro h; simp at h
    | cons p t ih =>
      intro h
      rw [List.map_cons, List.sum_cons]
      rcases List.mem_cons.1 h with rfl | h
      · dsimp only; omega
      · have := ih h; omega
  exact this _ hm
theorem Sane.fil_sz {S : FS} (h : Sane S) {n : Nm} {q : Nat} (hl : look S.now n = some q) : szQ S.fil q = (filS S q).s.size ∧ (filS S q).k ≤ (filS S q).s.size ∧ (filS S q).s.size ≤ 1099511627776 := by
  obtain ⟨f, hf⟩ := filQ_some (h.ids _ (look_mem hl))
  obtain ⟨hfm, hfq⟩ := filQ_mem hf
  have := h.sz f hfm
  unfold szQ filS
  rw [hf]
  exact ⟨rfl, this.2, this.1⟩
theorem Whole.append {S : FS} (h : Whole S) {n t : ByteArray} : Whole (appendS S n t).2 := by
  unfold appendS
  split
  · rename_i q e hf
    obtain ⟨_, hl⟩ := find_some hf
    split
    · exact h
    · rename_i hr
      obtain ⟨e1, e2, e3⟩ := h.sane.fil_sz hl
      have e4 := szQ_le hl
      have e5 := h.sane.room
      refine Whole.step (h.upd ?_ ?_)
      · rw [ByteArray.size_append]; omega
      · rw [ByteArray.size_append]; omega
  · exact h
theorem Whole.sync {S : FS} (h : Whole S) {n : ByteArray} : Whole (syncS S n).2 := by
  unfold syncS
  split
  · rename_i q e hf
    obtain ⟨_, hl⟩ := find_some hf
    obtain ⟨e1, e2, e3⟩ := h.sane.fil_sz hl
    split
    · exact h.step.upd e3 (Nat.le_refl _)
    · exact h.step
  · exact h
theorem Whole.syncdir {S : FS} (h : Whole S) : Whole (syncDirS S).2 := by
  unfold syncDirS
  split
  · exact h
  · split
    · exact h.step.settle
    · exact h.step
theorem Whole.delete {S : FS} (h : Whole S) {n : ByteArray} : Whole (deleteS S n).2 := by
  unfold deleteS
  split
  · rename_i q e hf
    obtain ⟨_, hl⟩ := find_some hf
    refine Whole.step (h.did ?_ ?_ trivial trivial)
    · show look S.now (nm n) ≠ none
      rw [hl]; simp
    · show (delM (nm n) S.now).length ≤ 64
      exact Nat.le_trans (del_len_le _ _) h.sane.len
  · exact h
theorem FsAt.fresh_id {w : World} {b q : Nat} {S : FS} {L : Lay} (h : FsAt w b S L) (hq : w.heap.size ≤ q) : q ∉ ids S := fun hm => by
  obtain ⟨f, hf, rfl⟩ := List.mem_map.1 hm
  have := h.fq_lt hf
  omega
end Go.Proofs.YteijmjbiaffcmaaGreatDoor.Fi

/- A full directory, as mathematics. -/
import Derived.Test.YtbgjcopgipganaaFilesLastsWalk
set_option maxRecDepth 20000
set_option linter.unusedSimpArgs false
namespace Go.Proofs.Ytbgjcopgipganaa
open Go.RowKit Go.Maps Go.Shelf

def nameJ (j : Nat) : ByteArray := ⟨#[102, UInt8.ofNat (97 + j / 26), UInt8.ofNat (97 + j % 26)]⟩
abbrev FAA : ByteArray := ⟨#[102, 97, 97]⟩
theorem nameJ_ok : ∀ j, j < 80 → okS (nameJ j) = true := by decide
theorem nameJ_inj {i j : Nat} (hi : i < 80) (hj : j < 80) (h : nm (nameJ i) = nm (nameJ j)) : i = j := by
  unfold nm nameJ at h
  simp at h
  obtain ⟨h1, h2⟩ := h
  have e1 := congrArg UInt8.toNat h1
  have e2 := congrArg UInt8.toNat h2
  simp at e1 e2
  omega
/-- Behind i creates. -/
structure Fulls (S : FS) (n : Int) (i : Nat) : Prop where
  room : S.room = n
  on : S.on = true
  arm : S.armed = false
  len : S.now.length = min i 64
  names : ∀ p ∈ S.now, ∃ j, j < i ∧ p.1 = nm (nameJ j)
  zero : ∀ f ∈ S.fil, f.s.size = 0
  nd : (S.now.map (·.2)).Nodup
  chg : S.chg.length ≤ i
  first : 0 < i → ∃ q, look S.now (nm FAA) = some q
theorem insM_perm (x : Nm × Nat) : ∀ M : FM, (insM x M).Perm (x :: M)
  | [] => List.Perm.refl _
  | y :: t => by
    unfold insM
    split
    · exact List.Perm.refl _
    · exact ((insM_perm x t).cons y).trans (List.Perm.swap x y t)
theorem put_ids {M : FM} {n : Nm} {q : Nat} (hl : look M n = none) : ((putM n q M).map (·.2)).Perm (q :: M.map (·.2)) := by
  unfold putM
  rw [del_same hl]
  exact (insM_perm (n, q) M).map (·.2)
theorem Fulls.create {S : FS} {n : Int} {i q : Nat} (h : Fulls S n i) (hw : Whole S) (hi : i < 80) (hq : q ∉ ids S) : (createS S (nameJ i) q).1 = (if i < 64 then 0 else 15) ∧ Fulls (createS S (nameJ i) q).2 n (i + 1) := by
  have hc : checkS S [nameJ i] = 0 := by
    unfold checkS
    rw [h.on, if_neg (by decide), if_pos]
    rw [List.all_cons, nameJ_ok i hi]; rfl
  have hl : look S.now (nm (nameJ i)) = none := by
    rw [look_none]
    intro p hp e
    obtain ⟨j, hj, ej⟩ := h.names p hp
    have := nameJ_inj hi (by omega) (e.symm.trans ej)
    omega
  unfold createS
  rw [if_neg (by rw [hc]; decide), hl, if_neg (by decide)]
  by_cases h64 : i < 64
  · rw [if_neg (by rw [h.len]; omega), if_pos h64]
    have hst : stepS (doS (addS S q) (.mk (nm (nameJ i)) q)) = (true, doS (addS S q) (.mk (nm (nameJ i)) q)) := by
      unfold stepS
      rw [if_pos (show (doS (addS S q) (.mk (nm (nameJ i)) q)).armed = false from h.arm)]
    unfold stepD
    rw [hst]
    refine ⟨rfl, ⟨h.room, h.on, h.arm, ?_, ?_, ?_, ?_, ?_, ?_⟩⟩
    · show (putM (nm (nameJ i)) q S.now).length = _
      rw [put_len q hl, h.len]; omega
    · intro p hp
      rcases putM_mem.1 (show p ∈ putM (nm (nameJ i)) q S.now from hp) with rfl | ⟨hp, _⟩
      · exact ⟨i, by omega, rfl⟩
      · obtain ⟨j, hj, ej⟩ := h.names p hp
        exact ⟨j, by omega, ej⟩
    · intro f hf
      rcases List.mem_append.1 (show f ∈ S.fil ++ [⟨q, ⟨#[]⟩, 0⟩] from hf) with hf | hf
      · exact h.zero f hf
      · rw [List.mem_singleton] at hf; subst hf; rfl
    · show ((putM (nm (nameJ i)) q S.now).map (·.2)).Nodup
      rw [(put_ids hl).nodup_iff, List.nodup_cons]
      refine ⟨fun hm => ?_, h.nd⟩
      obtain ⟨p, hp, e⟩ := List.mem_map.1 hm
      exact hq (e ▸ hw.sane.ids p hp)
    · show (S.chg ++ [Chg.mk (nm (nameJ i)) q]).length ≤ i + 1
      rw [List.length_append]
      have := h.chg
      simp; omega
    · intro _
      show ∃ q', look (putM (nm (nameJ i)) q S.now) (nm FAA) = some q'
      rw [look_put hw.sane.srt]
      by_cases e : nm FAA = nm (nameJ i)
      · rw [if_pos e]; exact ⟨q, rfl⟩
      · rw [if_neg e]
        refine h.first ?_
        rcases Nat.eq_zero_or_pos i with h0 | h0
        · subst h0; exact absurd rfl e
        · exact h0
  · rw [if_pos (by rw [h.len]; omega), if_neg h64]
    refine ⟨rfl, ⟨h.room, h.on, h.arm, by rw [h.len]; omega, fun p hp => ?_, h.zero, h.nd, (by have := h.chg; show S.chg.length ≤ i + 1; omega), fun _ => h.first (by omega)⟩⟩
    obtain ⟨j, hj, ej⟩ := h.names p hp
    exact ⟨j, by omega, ej⟩
/-- The file faa with these bytes; all others are empty. -/
structure Faa (S : FS) (n : Int) (q : Nat) (s : ByteArray) : Prop where
  room : S.room = n
  on : S.on = true
  arm : S.armed = false
  now : look S.now (nm FAA) = some q
  fil : ∃ k, filQ S.fil q = some ⟨q, s, k⟩
  zero : ∀ f ∈ S.fil, f.q ≠ q → f.s.size = 0
  nd : (S.now.map (·.2)).Nodup
theorem sum_one (F : List Fil) (q : Nat) (hz : ∀ f ∈ F, f.q ≠ q → f.s.size = 0) : ∀ M : FM, (M.map (·.2)).Nodup → (M.map fun p => szQ F p.2).sum = if q ∈ M.map (·.2) then szQ F q else 0
  | [], _ => by simp
  | p :: t, h => by
    rw [List.map_cons, List.nodup_cons] at h
    rw [List.map_cons, List.sum_cons, sum_one F q hz t h.2]
    by_cases e : p.2 = q
    · rw [if_neg (by rw [← e]; exact h.1), if_pos (by rw [List.map_cons, e]; exact List.mem_cons_self), e]; omega
    · have h0 : szQ F p.2 = 0 := by
        unfold szQ
        split
        · rename_i f hf
          obtain ⟨h1, h2⟩ := filQ_mem hf
          exact hz f h1 (by rw [h2]; exact e)
        · rfl
      rw [h0, Nat.zero_add]
      have : (q ∈ (p :: t).map (·.2)) = (q ∈ t.map (·.2)) := by
        rw [List.map_cons, List.mem_cons]
        exact propext ⟨fun h => h.resolve_left fun h => e h.symm, Or.inr⟩
      simp only [this]
theorem Faa.used {S : FS} {n : Int} {q : Nat} {s : ByteArray} (h : Faa S n q s) : usedS S = s.size := by
  obtain ⟨k, hk⟩ := h.fil
  unfold usedS
  rw [sum_one S.fil q h.zero S.now h.nd, if_pos (List.mem_map.2 ⟨_, look_mem h.now, rfl⟩)]
  unfold szQ
  rw [hk]
theorem Faa.find {S : FS} {n : Int} {q : Nat} {s : ByteArray} (h : Faa S n q s) : findS S FAA = (some q, 0) := by
  unfold findS
  have hc : checkS S [FAA] = 0 := by unfold checkS; rw [h.on]; rfl
  rw [if_neg (by rw [hc]; decide), h.now]
theorem Faa.read {S : FS} {n : Int} {q : Nat} {s : ByteArray} (h : Faa S n q s) : readS S FAA = (s, 0) := by
  obtain ⟨k, hk⟩ := h.fil
  unfold readS
  rw [h.find]
  dsimp only
  unfold filS
  rw [hk]; rfl
theorem upd_found {F : List Fil} {q k j : Nat} {s t : ByteArray} (h : filQ F q = some ⟨q, s, k⟩) : filQ (updQ F q t j) q = some ⟨q, t, j⟩ := by
  induction F with
  | nil => cases h
  | cons f r ih =>
    unfold filQ at h ⊢
    unfold updQ
    unfold filQ updQ at ih
    rw [List.map_cons]
    by_cases e : f.q = q
    · rw [if_pos e, List.find?_cons_of_pos (by simp)]
    · rw [List.find?_cons_of_neg (by simpa using e)] at h
      rw [if_neg e, List.find?_cons_of_neg (by simpa using e)]
      exact ih h
theorem Faa.append {S : FS} {n : Int} {q : Nat} {s t : ByteArray} (h : Faa S n q s) : (appendS S FAA t).1 = (if (s.size : Int) + (t.size : Int) ≤ n then 0 else 15) ∧ Faa (appendS S FAA t).2 n q (if (s.size : Int) + (t.size : Int) ≤ n then s ++ t else s) := by
  obtain ⟨k, hk⟩ := h.fil
  unfold appendS
  rw [h.find]
  dsimp only
  rw [h.used, h.room]
  by_cases hn : (s.size : Int) + (t.size : Int) ≤ n
  · rw [if_neg (by omega), if_pos hn, if_pos hn]
    unfold filS
    rw [hk]
    have hst : stepS (updS S q (s ++ t) k) = (true, updS S q (s ++ t) k) := by
      unfold stepS
      rw [if_pos (show (updS S q (s ++ t) k).armed = false from h.arm)]
    show (stepD (updS S q (s ++ t) k)).1 = 0 ∧ Faa (stepD (updS S q (s ++ t) k)).2 n q (s ++ t)
    unfold stepD
    rw [hst]
    refine ⟨rfl, ⟨h.room, h.on, h.arm, h.now, ⟨k, upd_found hk⟩, fun f hf hne => ?_, h.nd⟩⟩
    rcases updQ_mem hf with ⟨rfl, _⟩ | ⟨hf, _⟩
    · exact absurd rfl hne
    · exact h.zero f hf hne
  · rw [if_pos (by omega), if_neg hn, if_neg hn]
    exact ⟨rfl, h⟩
/-- faa is made, if it isn't there. -/
theorem Fulls.faa {S : FS} {n : Int} {i q : Nat} (h : Fulls S n i) (hw : Whole S) (hi : i < 80) (hq : q ∉ ids S) : ∃ q', Faa (createS S FAA q).2 n q' ⟨#[]⟩ := by
  rcases Nat.eq_zero_or_pos i with h0 | h0
  · subst h0
    obtain ⟨_, h1⟩ := h.create hw (by decide) hq
    rw [show nameJ 0 = FAA from rfl] at h1
    obtain ⟨q', hq'⟩ := h1.first (by decide)
    have hw1 := hw.create (n := FAA) hq
    obtain ⟨f, hf⟩ := filQ_some (hw1.sane.ids _ (look_mem hq'))
    obtain ⟨hfm, hfq⟩ := filQ_mem hf
    have hz := h1.zero f hfm
    obtain ⟨fq, fs, fk⟩ := f
    dsimp only at hfq hz
    subst hfq
    have hs : fs = ⟨#[]⟩ := by
      obtain ⟨a⟩ := fs
      have : a.size = 0 := hz
      rw [Array.size_eq_zero_iff.1 this]
    subst hs
    exact ⟨fq, ⟨h1.room, h1.on, h1.arm, hq', ⟨fk, hf⟩, fun g hg _ => h1.zero g hg, h1.nd⟩⟩
  · obtain ⟨q', hq'⟩ := h.first h0
    have e : createS S FAA q = (13, S) := by
      unfold createS
      have hc : checkS S [FAA] = 0 := by unfold checkS; rw [h.on]; rfl
      rw [if_neg (by rw [hc]; decide), hq', if_pos (show (some q').isSome = true from rfl)]
    rw [e]
    obtain ⟨f, hf⟩ := filQ_some (hw.sane.ids _ (look_mem hq'))
    obtain ⟨hfm, hfq⟩ := filQ_mem hf
    have hz := h.zero f hfm
    obtain ⟨fq, fs, fk⟩ := f
    dsimp only at hfq hz
    subst hfq
    have hs : fs = ⟨#[]⟩ := by
      obtain ⟨a⟩ := fs
      have : a.size = 0 := hz
      rw [Array.size_eq_zero_iff.1 this]
    subst hs
    exact ⟨fq, ⟨h.room, h.on, h.arm, hq', ⟨fk, hf⟩, fun g hg _ => h.zero g hg, h.nd⟩⟩
end Go.Proofs.Ytbgjcopgipganaa

/- A file in the place of another, as mathematics. -/
import Derived.Test.YtbgjcopgipganaaFilesRename
import Derived.Test.YtbgjcopgipganaaFilesLastsWalk
set_option maxRecDepth 20000
set_option linter.unusedSimpArgs false
namespace Go.Proofs.Ytbgjcopgipganaa
open Go.RowKit Go.Maps Go.Shelf

abbrev NOW : ByteArray := ⟨#[110, 111, 119]⟩
abbrev NEXT : ByteArray := ⟨#[110, 101, 120, 116]⟩
abbrev N1 : Nm := [110, 111, 119]
abbrev X1 : Nm := [110, 101, 120, 116]
theorem nil_app (a : ByteArray) : (⟨#[]⟩ : ByteArray) ++ a = a := by
  apply ByteArray.ext
  simp
theorem ext_all (a : ByteArray) : a.extract 0 a.size = a := by simp
def W1 (q : Nat) (s : ByteArray) (k : Nat) : FS := ⟨100000, [(N1, q)], [], [.mk N1 q], true, false, 0, [⟨q, s, k⟩]⟩
def W4 (q : Nat) (s : ByteArray) (k : Nat) : FS := ⟨100000, [(N1, q)], [(N1, q)], [], true, false, 0, [⟨q, s, k⟩]⟩
def W5 (q r : Nat) (s : ByteArray) (t : ByteArray) (j : Nat) : FS := ⟨100000, [(X1, r), (N1, q)], [(N1, q)], [.mk X1 r], true, false, 0, [⟨q, s, s.size⟩, ⟨r, t, j⟩]⟩
def W8 (q r : Nat) (s t : ByteArray) : FS := ⟨100000, [(N1, r)], [(N1, q)], [.mk X1 r, .ren X1 N1], true, false, 0, [⟨q, s, s.size⟩, ⟨r, t, t.size⟩]⟩
def W9 (q r : Nat) (s t : ByteArray) : FS := ⟨100000, [(N1, r)], [(N1, r)], [], true, false, 0, [⟨q, s, s.size⟩, ⟨r, t, t.size⟩]⟩
theorem sw_1 (q : Nat) : createS (emptyS 100000) NOW q = (0, W1 q ⟨#[]⟩ 0) := rfl
theorem find_1 {S : FS} {q : Nat} (h1 : S.on = true) (h2 : S.now = [(N1, q)]) : findS S NOW = (some q, 0) := by
  unfold findS checkS
  rw [h1, h2]; rfl
theorem find_2 {S : FS} {q r : Nat} (h1 : S.on = true) (h2 : S.now = [(X1, r), (N1, q)]) : findS S NOW = (some q, 0) ∧ findS S NEXT = (some r, 0) := by
  unfold findS checkS
  rw [h1, h2]; exact ⟨rfl, rfl⟩
theorem sw_2 (q : Nat) (s : ByteArray) (h : s.size ≤ 200) : appendS (W1 q ⟨#[]⟩ 0) NOW s = (0, W1 q s 0) := by
  unfold appendS
  rw [find_1 rfl rfl]
  dsimp only
  rw [used_one rfl (rfl : (W1 q ⟨#[]⟩ 0).fil = [⟨q, ⟨#[]⟩, 0⟩]), if_neg (by show ¬ (100000 : Int) < 0 + (s.size : Int); omega)]
  unfold filS
  rw [show (W1 q ⟨#[]⟩ 0).fil = [⟨q, ⟨#[]⟩, 0⟩] from rfl, filQ_one]
  show stepD (updS (W1 q ⟨#[]⟩ 0) q (⟨#[]⟩ ++ s) 0) = _
  rw [nil_app]
  unfold stepD updS
  rw [show (W1 q ⟨#[]⟩ 0).fil = [⟨q, ⟨#[]⟩, 0⟩] from rfl, updQ_one]; rfl
theorem sw_3 (q : Nat) (s : ByteArray) : syncS (W1 q s 0) NOW = (0, W1 q s s.size) := by
  unfold syncS
  rw [find_1 rfl rfl]
  dsimp only
  rw [if_pos (show (stepS (W1 q s 0)).1 = true from rfl)]
  unfold filS updS
  rw [show (stepS (W1 q s 0)).2 = W1 q s 0 from rfl, show (W1 q s 0).fil = [⟨q, s, 0⟩] from rfl, filQ_one, updQ_one]; rfl
theorem sw_4 (q : Nat) (s : ByteArray) (k : Nat) : syncDirS (W1 q s k) = (0, W4 q s k) := rfl
theorem sw_5 (q r : Nat) (s : ByteArray) : createS (W4 q s s.size) NEXT r = (0, W5 q r s ⟨#[]⟩ 0) := rfl
theorem sw_6 {q r : Nat} (hq : q ≠ r) (s t : ByteArray) (h : s.size ≤ 200) (ht : t.size ≤ 200) : appendS (W5 q r s ⟨#[]⟩ 0) NEXT t = (0, W5 q r s t 0) := by
  have hu : usedS (W5 q r s ⟨#[]⟩ 0) = s.size := by
    show szQ [⟨q, s, s.size⟩, ⟨r, ⟨#[]⟩, 0⟩] r + (szQ [⟨q, s, s.size⟩, ⟨r, ⟨#[]⟩, 0⟩] q + 0) = _
    unfold szQ
    rw [(filQ_two hq _ _ _ _).1, (filQ_two hq _ _ _ _).2]
    show 0 + (s.size + 0) = _
    omega
  unfold appendS
  rw [(find_2 rfl rfl : findS (W5 q r s ⟨#[]⟩ 0) NOW = _ ∧ _).2]
  dsimp only
  rw [hu, if_neg (by show ¬ (100000 : Int) < (s.size : Int) + (t.size : Int); omega)]
  unfold filS
  rw [show (W5 q r s ⟨#[]⟩ 0).fil = [⟨q, s, s.size⟩, ⟨r, ⟨#[]⟩, 0⟩] from rfl, (filQ_two hq _ _ _ _).2]
  show stepD (updS (W5 q r s ⟨#[]⟩ 0) r (⟨#[]⟩ ++ t) 0) = _
  rw [nil_app]
  unfold stepD updS
  rw [show (W5 q r s ⟨#[]⟩ 0).fil = [⟨q, s, s.size⟩, ⟨r, ⟨#[]⟩, 0⟩] from rfl, (updQ_two hq _ _ _ _ _ _).2]; rfl
theorem sw_7 {q r : Nat} (hq : q ≠ r) (s t : ByteArray) : syncS (W5 q r s t 0) NEXT = (0, W5 q r s t t.size) := by
  unfold syncS
  rw [(find_2 rfl rfl : findS (W5 q r s t 0) NOW = _ ∧ _).2]
  dsimp only
  rw [if_pos (show (stepS (W5 q r s t 0)).1 = true from rfl)]
  unfold filS updS
  rw [show (stepS (W5 q r s t 0)).2 = W5 q r s t 0 from rfl, show (W5 q r s t 0).fil = [⟨q, s, s.size⟩, ⟨r, t, 0⟩] from rfl, (filQ_two hq _ _ _ _).2, (updQ_two hq _ _ _ _ _ _).2]; rfl
theorem sw_8 (q r : Nat) (s t : ByteArray) : renameS (W5 q r s t t.size) NEXT NOW = (0, W8 q r s t) := rfl
theorem sw_9 (q r : Nat) (s t : ByteArray) : syncDirS (W8 q r s t) = (0, W9 q r s t) := rfl
theorem cut_same {q r : Nat} (hq : q ≠ r) (s t : ByteArray) (l : List Int) (i : Nat) : cutQ l i q [⟨q, s, s.size⟩, ⟨r, t, t.size⟩] = [⟨q, s, s.size⟩, ⟨r, t, t.size⟩] ∧ cutQ l i r [⟨q, s, s.size⟩, ⟨r, t, t.size⟩] = [⟨q, s, s.size⟩, ⟨r, t, t.size⟩] := by
  have h1 := pickI_le l i 0
  unfold cutQ
  rw [(filQ_two hq _ _ _ _).1, (filQ_two hq _ _ _ _).2]
  dsimp only
  rw [Nat.sub_self, Nat.sub_self, show pickI l i 0 = 0 by omega, Nat.add_zero, Nat.add_zero, ext_all, ext_all, (updQ_two hq _ _ _ _ _ _).1, (updQ_two hq _ _ _ _ _ _).2]
  exact ⟨rfl, rfl⟩
theorem read_1 {S : FS} {q r : Nat} {s t : ByteArray} (hq : q ≠ r) (h1 : S.on = true) (h2 : S.now = [(N1, r)]) (h3 : S.fil = [⟨q, s, s.size⟩, ⟨r, t, t.size⟩]) : readS S NOW = (t, 0) := by
  unfold readS
  rw [find_1 h1 h2]
  dsimp only
  unfold filS
  rw [h3, (filQ_two hq _ _ _ _).2]; rfl
theorem read_0 {S : FS} {q r : Nat} {s t : ByteArray} (hq : q ≠ r) (h1 : S.on = true) (h2 : S.now = [(N1, q)] ∨ S.now = [(X1, r), (N1, q)]) (h3 : S.fil = [⟨q, s, s.size⟩, ⟨r, t, t.size⟩]) : readS S NOW = (s, 0) := by
  have hf : findS S NOW = (some q, 0) := by
    rcases h2 with h2 | h2
    · exact find_1 h1 h2
    · exact (find_2 h1 h2).1
  unfold readS
  rw [hf]
  dsimp only
  unfold filS
  rw [h3, (filQ_two hq _ _ _ _).1]; rfl
/-- Behind a SyncDir: the new one. -/
theorem sw_dir {q r : Nat} (hq : q ≠ r) (s t : ByteArray) (l : List Int) : readS (crashS (W9 q r s t) l) NOW = (t, 0) := by
  have h0 := pickI_le l 0 0
  have e : crashS (W9 q r s t) l = ⟨100000, [(N1, r)], [(N1, r)], [], true, false, 0, cutQ l 1 r [⟨q, s, s.size⟩, ⟨r, t, t.size⟩]⟩ := by
    unfold crashS
    rw [show (W9 q r s t).chg.length = 0 from rfl, show pickI l 0 0 = 0 by omega]; rfl
  rw [e, (cut_same hq s t l 1).2]
  exact read_1 hq rfl rfl rfl
/-- Without: the elder one whole, or the new one whole. -/
theorem sw_no {q r : Nat} (hq : q ≠ r) (s t : ByteArray) (l : List Int) : readS (crashS (W8 q r s t) l) NOW = (t, 0) ∨ readS (crashS (W8 q r s t) l) NOW = (s, 0) := by
  have h0 := pickI_le l 0 2
  obtain ⟨k, hk⟩ : ∃ k, pickI l 0 2 = k := ⟨_, rfl⟩
  rw [hk] at h0
  have e0 : (W8 q r s t).chg.length = 2 := rfl
  match k, h0 with
  | 0, _ =>
    have e : crashS (W8 q r s t) l = ⟨100000, [(N1, q)], [(N1, q)], [], true, false, 0, cutQ l 1 q [⟨q, s, s.size⟩, ⟨r, t, t.size⟩]⟩ := by
      unfold crashS
      rw [e0, hk]; rfl
    rw [e, (cut_same hq s t l 1).1]
    exact Or.inr (read_0 hq rfl (Or.inl rfl) rfl)
  | 1, _ =>
    have e : crashS (W8 q r s t) l = ⟨100000, [(X1, r), (N1, q)], [(X1, r), (N1, q)], [], true, false, 0, cutQ l 2 q (cutQ l 1 r [⟨q, s, s.size⟩, ⟨r, t, t.size⟩])⟩ := by
      unfold crashS
      rw [e0, hk]; rfl
    rw [e, (cut_same hq s t l 1).2, (cut_same hq s t l 2).1]
    exact Or.inr (read_0 hq rfl (Or.inr rfl) rfl)
  | 2, _ =>
    have e : crashS (W8 q r s t) l = ⟨100000, [(N1, r)], [(N1, r)], [], true, false, 0, cutQ l 1 r [⟨q, s, s.size⟩, ⟨r, t, t.size⟩]⟩ := by
      unfold crashS
      rw [e0, hk]; rfl
    rw [e, (cut_same hq s t l 1).2]
    exact Or.inl (read_1 hq rfl rfl rfl)
end Go.Proofs.Ytbgjcopgipganaa

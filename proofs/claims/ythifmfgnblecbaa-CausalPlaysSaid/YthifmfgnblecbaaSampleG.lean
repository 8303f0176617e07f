/- Joined: SampleName, SampleRec, SamplePt, SamplePts, SampleNm, SamplePPt, SampleRCheck, SampleSmall, SampleFew, SampleArgs, SampleOwn, SampleSameP, SampleRBytes, SampleReadMath, SamplePtsMath, SampleTv, SampleRRead, SampleTakeP, SampleListP, SampleRListP. -/
import Derived.Test.YthifmfgnblecbaaVintA
import Derived.WalkMore
import Derived.Test.YthifmfgnblecbaaMarkB
import Derived.Test.YthifmfgnblecbaaMarkC
import Derived.WideShapes
import Derived.Test.YthifmfgnblecbaaMarkA
import Derived.Deep.AppendSrc
import Derived.Deep.Upon
import Derived.Deep.MidRow
import Derived.Lib.AppendStr
import Derived.OwnWalk
import Derived.Laws.IdiomStrings
import Derived.BigQuiet
import Derived.Test.YthifmfgnblecbaaMarkReadMath
import Derived.Test.YthifmfgnblecbaaMarkRRead
import Derived.Test.YthifmfgnblecbaaVintB
import Derived.Laws.EntriesVeiled
/- Names and times: what they are, and the contracts of the document's Name and time. -/
set_option maxRecDepth 20000
namespace Go.Proofs.Ythifmfgnblecbaa
open Go.RowKit Go.Proofs.Ythifmfgnblecbaa.Vi

/-- A byte that a name may have; a name. -/
def nameC (b : UInt8) : Bool := decide (97 ≤ b.toNat ∧ b.toNat ≤ 122) || decide (48 ≤ b.toNat ∧ b.toNat ≤ 57) || decide (b.toNat = 95) || decide (b.toNat = 46)
def nameL (s : List UInt8) : Bool := match s with
  | [] => false
  | b :: t => decide (t.length < 40) && decide (97 ≤ b.toNat ∧ b.toNat ≤ 122) && (b :: t).all nameC
def nameB (s : ByteArray) : Bool := nameL s.data.toList
theorem nameL_short {s : List UInt8} (h : s.length < 1 ∨ 40 < s.length) : nameL s = false := by
  cases s with
  | nil => rfl
  | cons b t =>
    simp at h
    show (decide (t.length < 40) && decide (97 ≤ b.toNat ∧ b.toNat ≤ 122) && (b :: t).all nameC) = false
    have : decide (t.length < 40) = false := by simp; omega
    rw [this]; rfl
theorem nameL_first {s : List UInt8} (h : 0 < s.length) (hb : ¬ (97 ≤ s[0].toNat ∧ s[0].toNat ≤ 122)) : nameL s = false := by
  cases s with
  | nil => rfl
  | cons b t =>
    have hb : ¬ (97 ≤ b.toNat ∧ b.toNat ≤ 122) := hb
    show (decide (t.length < 40) && decide (97 ≤ b.toNat ∧ b.toNat ≤ 122) && (b :: t).all nameC) = false
    rw [decide_eq_false hb]; simp
theorem nameL_no {s : List UInt8} {k : Nat} (h : k < s.length) (hb : nameC s[k] = false) : nameL s = false := by
  cases s with
  | nil => rfl
  | cons b t =>
    show (decide (t.length < 40) && decide (97 ≤ b.toNat ∧ b.toNat ≤ 122) && (b :: t).all nameC) = false
    have : (b :: t).all nameC = false := List.all_eq_false.2 ⟨_, List.getElem_mem h, by rw [hb]; simp⟩
    rw [this, Bool.and_false]
theorem nameL_yes {s : List UInt8} (h1 : 0 < s.length) (h2 : s.length ≤ 40) (hb : 97 ≤ s[0].toNat ∧ s[0].toNat ≤ 122) (hc : ∀ k (h : k < s.length), nameC s[k] = true) : nameL s = true := by
  cases s with
  | nil => simp at h1
  | cons b t =>
    have hb : 97 ≤ b.toNat ∧ b.toNat ≤ 122 := hb
    show (decide (t.length < 40) && decide (97 ≤ b.toNat ∧ b.toNat ≤ 122) && (b :: t).all nameC) = true
    rw [decide_eq_true hb, decide_eq_true (by simp at h2; omega)]
    simp only [Bool.and_true, Bool.true_and]
    exact List.all_eq_true.2 fun x hx => by
      obtain ⟨k, hk, rfl⟩ := List.getElem_of_mem hx
      exact hc k hk

theorem rtime_is (t : Int) (z : Bool) (w : World) (H : Hid (decide (0 ≤ t ∧ t ≤ 1099511627776) = z)) : Calls Try.prog 58 #[.int .i64 t] w fun e w' => e = .returned (.bool z) ∧ w = w' := by
  by_cases h0 : 0 ≤ t
  · by_cases h1 : t ≤ 1099511627776
    · have HZ : Hid (z = true) := by show _ = _; rw [← H.out]; exact decide_eq_true ⟨h0, h1⟩
      go_enter Try.func58, Try.ntmps58
      go_wp2
      go_ret
      exact ⟨by rw [HZ.out]; rfl, rfl⟩
    · have HZ : Hid (z = false) := by show _ = _; rw [← H.out]; exact decide_eq_false fun h => h1 h.2
      go_enter Try.func58, Try.ntmps58
      go_wp2
      go_ret
      exact ⟨by rw [HZ.out]; rfl, rfl⟩
  · have HZ : Hid (z = false) := by show _ = _; rw [← H.out]; exact decide_eq_false fun h => h0 h.1
    go_enter Try.func58, Try.ntmps58
    go_wp2
    go_ret
    exact ⟨by rw [HZ.out]; rfl, rfl⟩

set_option maxHeartbeats 2000000 in
theorem rname_is (s : ByteArray) (c : Bool) (w : World) (hs : s.size ≤ 1000000000) (H : Hid (nameB s = c)) : Calls Try.prog 61 #[.string s] w fun e w' => e = .returned (.bool c) ∧ w = w' := by
  have hl : s.data.toList.length = s.size := by simp
  by_cases hshort : s.size < 1 ∨ 40 < s.size
  · have HF : Hid (false = c) := by show _ = _; rw [← H.out]; exact (nameL_short (by rw [hl]; exact hshort)).symm
    clear H
    rcases hshort with h | h
    · have h1 : (s.size : Int) < 1 := by omega
      go_enter Try.func61, Try.ntmps61
      go_wp2
      go_ret
      exact ⟨by rw [← HF.out]; rfl, rfl⟩
    · have h1 : ¬ (s.size : Int) < 1 := by omega
      have h2 : (40 : Int) < (s.size : Int) := by omega
      go_enter Try.func61, Try.ntmps61
      go_wp2
      go_ret
      exact ⟨by rw [← HF.out]; rfl, rfl⟩
  · have h1 : ¬ (s.size : Int) < 1 := by omega
    have h2 : ¬ (40 : Int) < (s.size : Int) := by omega
    obtain ⟨b0, hb0⟩ : ∃ b, s[0]'(by omega) = b := ⟨_, rfl⟩
    have hb0L : s.data.toList[0]'(by rw [hl]; omega) = b0 := by rw [← hb0]; rfl
    by_cases hfirst : 97 ≤ b0.toNat ∧ b0.toNat ≤ 122
    · have f1 : ¬ (b0.toNat : Int) < 97 := by omega
      have f2 : ¬ (122 : Int) < (b0.toNat : Int) := by omega
      have HYES := Lib.hid (fun hc => nameL_yes (s := s.data.toList) (by rw [hl]; omega) (by rw [hl]; omega) (by rw [hb0L]; exact hfirst) hc)
      clear hb0L hfirst
      go_enter Try.func61, Try.ntmps61
      go_wp2
      go_loop [3] (fun i => ∃ k : Nat, k ≤ s.size ∧ i = .int .i64 (k : Int) ∧ Hid (∀ j (hj : j < s.data.toList.length), j < k → nameC s.data.toList[j] = true)) (fun i => s.size - (intOf i).toNat)
      case atStart => exact ⟨0, Nat.zero_le _, rfl, Lib.hid fun j _ hj => absurd hj (Nat.not_lt_zero _)⟩
      case round =>
        obtain ⟨k, hk, rfl, hall⟩ := hrel
        clear hb0 f1 f2
        by_cases hlt : k < s.size
        · obtain ⟨b, hb⟩ : ∃ b, s[k] = b := ⟨_, rfl⟩
          have hbL : s.data.toList[k]'(by rw [hl]; exact hlt) = b := by rw [← hb]; rfl
          have hbb := b.toNat_lt
          have HNO := Lib.hid (fun (h : nameC b = false) => show false = c by rw [← H.out]; exact (nameL_no (k := k) (by rw [hl]; exact hlt) (by rw [hbL]; exact h)).symm)
          have HGO := Lib.hid (fun (h : nameC b = true) => show ∀ j (hj : j < s.data.toList.length), j < k + 1 → nameC s.data.toList[j] = true from fun j hj hjk => by
            by_cases e : j = k
            · subst e; rw [hbL]; exact h
            · exact hall.out j hj (by omega))
          clear hbL hall
          have case1 : (97 ≤ b.toNat ∧ b.toNat ≤ 122) ∨ (b.toNat < 48 ∧ b.toNat ≠ 46) ∨ b.toNat = 46 ∨ (48 ≤ b.toNat ∧ b.toNat ≤ 57) ∨ (57 < b.toNat ∧ b.toNat < 97 ∧ b.toNat ≠ 95) ∨ b.toNat = 95 ∨ 122 < b.toNat := by omega
          rcases case1 with ⟨g1, g2⟩ | ⟨g1, g2⟩ | g1 | ⟨g1, g2⟩ | ⟨g1, g2, g3⟩ | g1 | g1
          · skip
            have h3 : (97 : Int) ≤ (b.toNat : Int) := by omega
            have h4 : (b.toNat : Int) ≤ 122 := by omega
            have hg : nameC b = true := by unfold nameC; simp; omega
            have HH := Lib.hid (HGO.out hg)
            clear hg HGO HNO g1 g2
            go_wp2
            go_round
            case rel => exact ⟨k + 1, by omega, by go_num, HH⟩
            case measure => simp [intOf]; omega
          · skip
            have h3 : ¬ (97 : Int) ≤ (b.toNat : Int) := by omega
            have h4 : ¬ (48 : Int) ≤ (b.toNat : Int) := by omega
            have h5 : ((b.toNat : Int) == 95) = false := by simp; omega
            have h6 : ((b.toNat : Int) == 46) = false := by simp; omega
            have hg : nameC b = false := by unfold nameC; simp; omega
            have HH := Lib.hid (HNO.out hg)
            clear hg HGO HNO g1 g2
            go_wp2
            go_ret
            exact ⟨by rw [← HH.out]; rfl, rfl⟩
          · skip
            have h3 : ¬ (97 : Int) ≤ (b.toNat : Int) := by omega
            have h4 : ¬ (48 : Int) ≤ (b.toNat : Int) := by omega
            have h5 : ((b.toNat : Int) == 95) = false := by simp; omega
            have h6 : ((b.toNat : Int) == 46) = true := by simp; omega
            have hg : nameC b = true := by unfold nameC; simp; omega
            have HH := Lib.hid (HGO.out hg)
            clear hg HGO HNO g1
            go_wp2
            go_round
            case rel => exact ⟨k + 1, by omega, by go_num, HH⟩
            case measure => simp [intOf]; omega
          · skip
            have h3 : ¬ (97 : Int) ≤ (b.toNat : Int) := by omega
            have h4 : (48 : Int) ≤ (b.toNat : Int) := by omega
            have h5 : (b.toNat : Int) ≤ 57 := by omega
            have hg : nameC b = true := by unfold nameC; simp; omega
            have HH := Lib.hid (HGO.out hg)
            clear hg HGO HNO g1 g2
            go_wp2
            go_round
            case rel => exact ⟨k + 1, by omega, by go_num, HH⟩
            case measure => simp [intOf]; omega
          · skip
            have h3 : ¬ (97 : Int) ≤ (b.toNat : Int) := by omega
            have h4 : (48 : Int) ≤ (b.toNat : Int) := by omega
            have h5 : ¬ (b.toNat : Int) ≤ 57 := by omega
            have h6 : ((b.toNat : Int) == 95) = false := by simp; omega
            have h7 : ((b.toNat : Int) == 46) = false := by simp; omega
            have hg : nameC b = false := by unfold nameC; simp; omega
            have HH := Lib.hid (HNO.out hg)
            clear hg HGO HNO g1 g2 g3
            go_wp2
            go_ret
            exact ⟨by rw [← HH.out]; rfl, rfl⟩
          · skip
            have h3 : ¬ (97 : Int) ≤ (b.toNat : Int) := by omega
            have h4 : (48 : Int) ≤ (b.toNat : Int) := by omega
            have h5 : ¬ (b.toNat : Int) ≤ 57 := by omega
            have h6 : ((b.toNat : Int) == 95) = true := by simp; omega
            have hg : nameC b = true := by unfold nameC; simp; omega
            have HH := Lib.hid (HGO.out hg)
            clear hg HGO HNO g1
            go_wp2
            go_round
            case rel => exact ⟨k + 1, by omega, by go_num, HH⟩
            case measure => simp [intOf]; omega
          · skip
            have h3 : (97 : Int) ≤ (b.toNat : Int) := by omega
            have h4 : ¬ (b.toNat : Int) ≤ 122 := by omega
            have h5 : (48 : Int) ≤ (b.toNat : Int) := by omega
            have h6 : ¬ (b.toNat : Int) ≤ 57 := by omega
            have h7 : ((b.toNat : Int) == 95) = false := by simp; omega
            have h8 : ((b.toNat : Int) == 46) = false := by simp; omega
            have hg : nameC b = false := by unfold nameC; simp; omega
            have HH := Lib.hid (HNO.out hg)
            clear hg HGO HNO g1
            go_wp2
            go_ret
            exact ⟨by rw [← HH.out]; rfl, rfl⟩
        · have HE : Hid (true = c) := by show _ = _; rw [← H.out]; exact (HYES.out fun j hj => hall.out j hj (by rw [hl] at hj; omega)).symm
          clear hall
          go_wp2
          go_ret
          exact ⟨by rw [← HE.out]; rfl, rfl⟩
    · have HF : Hid (false = c) := by show _ = _; rw [← H.out]; exact (nameL_first (s := s.data.toList) (by rw [hl]; omega) (by rw [hb0L]; exact hfirst)).symm
      have f0 : (b0.toNat : Int) < 97 ∨ (¬ (b0.toNat : Int) < 97 ∧ (122 : Int) < (b0.toNat : Int)) := by omega
      clear hb0L hfirst H
      rcases f0 with f1 | ⟨f1, f2⟩
      all_goals
        go_enter Try.func61, Try.ntmps61
        go_wp2
        go_ret
        exact ⟨by rw [← HF.out]; rfl, rfl⟩
end Go.Proofs.Ythifmfgnblecbaa

/- Records: which may be; a record in its block. -/
set_option maxRecDepth 20000
namespace Go.Proofs.Ythifmfgnblecbaa
open Go.RowKit Go.Proofs.Ythifmfgnblecbaa.Vi Go.Proofs.Ythifmfgnblecbaa.Mk

structure Rec where
  k : Int
  s : ByteArray
  t : Int
  v : Int
  tier : Int
  st : St
  d : List Int
def Rec.head (r : Rec) : Bool := decide (0 ≤ r.t ∧ r.t ≤ 1099511627776) && sameL r.d (plainL r.d) && r.st.ok && decide (atL r.d r.st.s = r.st.q - 1)
def Rec.ok (r : Rec) : Bool := r.head && ((decide (r.k = 1) && nameB r.s && decide (r.tier = 0)) || (decide (r.k = 2) && decide (r.s = ⟨#[]⟩) && decide (r.v = 0) && decide (0 ≤ r.tier ∧ r.tier ≤ 3)))
def Rec.err (r : Rec) : Int := if r.ok then 0 else 1
/-- The numbers are of their kinds. -/
structure Rec.fits (r : Rec) : Prop where
  k : -9223372036854775808 ≤ r.k ∧ r.k ≤ 9223372036854775807
  s : r.s.size ≤ 1000000000
  t : -9223372036854775808 ≤ r.t ∧ r.t ≤ 9223372036854775807
  v : -9223372036854775808 ≤ r.v ∧ r.v ≤ 9223372036854775807
  tier : -9223372036854775808 ≤ r.tier ∧ r.tier ≤ 9223372036854775807
  ss : -9223372036854775808 ≤ r.st.s ∧ r.st.s ≤ 9223372036854775807
/-- A record as a value, and in block b. -/
def recV (r : Rec) (dv : Value) : Value := .agg #[.int .i64 r.k, .string r.s, .int .i64 r.t, .int .i64 r.v, .int .i64 r.tier, .int .i64 r.st.c, .int .i64 r.st.s, .int .i64 r.st.q, dv]
structure RecAt (w : World) (b : Nat) (r : Rec) (dv : Value) : Prop where
  c0 : w.cell? ⟨b, 0, none⟩ = some (.int .i64 r.k)
  c1 : w.cell? ⟨b, 1, none⟩ = some (.string r.s)
  c2 : w.cell? ⟨b, 2, none⟩ = some (.int .i64 r.t)
  c3 : w.cell? ⟨b, 3, none⟩ = some (.int .i64 r.v)
  c4 : w.cell? ⟨b, 4, none⟩ = some (.int .i64 r.tier)
  c5 : w.cell? ⟨b, 5, none⟩ = some (.int .i64 r.st.c)
  c6 : w.cell? ⟨b, 6, none⟩ = some (.int .i64 r.st.s)
  c7 : w.cell? ⟨b, 7, none⟩ = some (.int .i64 r.st.q)
  c8 : w.cell? ⟨b, 8, none⟩ = some dv
theorem RecAt.below {w w' : World} {b B : Nat} {r : Rec} {dv : Value} (h : RecAt w b r dv) (k : Below B w w') (hb : b < B) : RecAt w' b r dv :=
  ⟨(k.cell (p := ⟨b, 0, none⟩) hb).trans h.c0, (k.cell (p := ⟨b, 1, none⟩) hb).trans h.c1, (k.cell (p := ⟨b, 2, none⟩) hb).trans h.c2, (k.cell (p := ⟨b, 3, none⟩) hb).trans h.c3, (k.cell (p := ⟨b, 4, none⟩) hb).trans h.c4,
   (k.cell (p := ⟨b, 5, none⟩) hb).trans h.c5, (k.cell (p := ⟨b, 6, none⟩) hb).trans h.c6, (k.cell (p := ⟨b, 7, none⟩) hb).trans h.c7, (k.cell (p := ⟨b, 8, none⟩) hb).trans h.c8⟩
theorem RecAt.room {w : World} {b : Nat} {r : Rec} {dv : Value} (h : RecAt w b r dv) : b < w.heap.size := World.block_lt_of_cell? w _ h.c0
theorem RecAt.new (w : World) (r : Rec) (dv : Value) : RecAt (w.alloc (.cells #[.int .i64 r.k, .string r.s, .int .i64 r.t, .int .i64 r.v, .int .i64 r.tier, .int .i64 r.st.c, .int .i64 r.st.s, .int .i64 r.st.q, dv] 33)) w.heap.size r dv := by
  constructor <;> simp [go_sem]
/-- Held while a region draws: the record in its block, its numbers may be read, and nothing that was there has turned. -/
structure RHeld (w : World) (b : Nat) (r : Rec) (dv : Value) (w' : World) : Prop where
  at_ : RecAt w' b r dv
  ns : Ns w' dv r.d
  bel : Below w.heap.size w w'
theorem RHeld.keep {w w1 w2 : World} {b : Nat} {r : Rec} {dv : Value} (h : RHeld w b r dv w1) (k : Below w1.heap.size w1 w2) : RHeld w b r dv w2 := ⟨h.at_.below k h.at_.room, h.ns.later k, bel_next h.bel k⟩
theorem RHeld.drew {w w1 : World} {b : Nat} {r : Rec} {dv : Value} (h : RHeld w b r dv w1) : RHeld w b r dv w1.drew := h.keep ((Below.refl _ _).drew)
theorem RHeld.new {w : World} {r : Rec} {dv : Value} (h : Ns w dv r.d) : RHeld w w.heap.size r dv (w.alloc (.cells #[.int .i64 r.k, .string r.s, .int .i64 r.t, .int .i64 r.v, .int .i64 r.tier, .int .i64 r.st.c, .int .i64 r.st.s, .int .i64 r.st.q, dv] 33)) :=
  ⟨RecAt.new w r dv, h.later ((Below.refl _ _).alloc (Nat.le_refl _) _), (Below.refl _ _).alloc (Nat.le_refl _) _⟩

theorem Rec.err_head {r : Rec} (h : r.head = false) : r.err = 1 := by unfold Rec.err Rec.ok; rw [h]; rfl
theorem Rec.head_time {r : Rec} (h : decide (0 ≤ r.t ∧ r.t ≤ 1099511627776) = false) : r.head = false := by unfold Rec.head; rw [h]; rfl
theorem Rec.head_deps {r : Rec} (h : sameL r.d (plainL r.d) = false) : r.head = false := by unfold Rec.head; rw [h]; simp
theorem Rec.head_st {r : Rec} (h : r.st.ok = false) : r.head = false := by unfold Rec.head; rw [h]; simp
theorem Rec.head_at {r : Rec} (h : atL r.d r.st.s ≠ r.st.q - 1) : r.head = false := by unfold Rec.head; rw [decide_eq_false h, Bool.and_false]
theorem Rec.head_yes {r : Rec} (h1 : decide (0 ≤ r.t ∧ r.t ≤ 1099511627776) = true) (h2 : sameL r.d (plainL r.d) = true) (h3 : r.st.ok = true) (h4 : atL r.d r.st.s = r.st.q - 1) : r.head = true := by
  unfold Rec.head; rw [h1, h2, h3, decide_eq_true h4]; rfl
theorem Rec.ok_sample {r : Rec} (hk : r.k = 1) : r.ok = (r.head && nameB r.s && decide (r.tier = 0)) := by
  unfold Rec.ok
  rw [decide_eq_true hk, decide_eq_false (show ¬ r.k = 2 by omega)]
  simp [Bool.and_assoc]
theorem Rec.ok_cut {r : Rec} (hk : r.k = 2) : r.ok = (r.head && decide (r.s = ⟨#[]⟩) && decide (r.v = 0) && decide (0 ≤ r.tier ∧ r.tier ≤ 3)) := by
  unfold Rec.ok
  rw [decide_eq_true hk, decide_eq_false (show ¬ r.k = 1 by omega)]
  simp [Bool.and_assoc]
theorem Rec.ok_none {r : Rec} (h1 : r.k ≠ 1) (h2 : r.k ≠ 2) : r.ok = false := by
  unfold Rec.ok
  rw [decide_eq_false h1, decide_eq_false h2]
  simp
theorem St.err_eq (a : St) : a.err = if a.ok then 0 else 1 := rfl
end Go.Proofs.Ythifmfgnblecbaa

/- Points: which may be, their order, whether two are the same; the contracts of the document's answers for these. -/
set_option maxRecDepth 20000
namespace Go.Proofs.Ythifmfgnblecbaa
open Go.RowKit Go.Proofs.Ythifmfgnblecbaa.Vi Go.Proofs.Ythifmfgnblecbaa.Mk

structure Pt where
  s : ByteArray
  t : Int
  v : Int
  st : St
def Pt.ok (p : Pt) : Bool := nameB p.s && decide (0 ≤ p.t ∧ p.t ≤ 1099511627776) && p.st.ok
def Pt.err (p : Pt) : Int := if p.ok then 0 else 1
def ptV (p : Pt) : Value := .agg #[.string p.s, .int .i64 p.t, .int .i64 p.v, .int .i64 p.st.c, .int .i64 p.st.s, .int .i64 p.st.q]
structure PtAt (w : World) (b : Nat) (p : Pt) : Prop where
  c0 : w.cell? ⟨b, 0, none⟩ = some (.string p.s)
  c1 : w.cell? ⟨b, 1, none⟩ = some (.int .i64 p.t)
  c2 : w.cell? ⟨b, 2, none⟩ = some (.int .i64 p.v)
  c3 : w.cell? ⟨b, 3, none⟩ = some (.int .i64 p.st.c)
  c4 : w.cell? ⟨b, 4, none⟩ = some (.int .i64 p.st.s)
  c5 : w.cell? ⟨b, 5, none⟩ = some (.int .i64 p.st.q)
theorem PtAt.below {w w' : World} {b B : Nat} {p : Pt} (h : PtAt w b p) (k : Below B w w') (hb : b < B) : PtAt w' b p :=
  ⟨(k.cell (p := ⟨b, 0, none⟩) hb).trans h.c0, (k.cell (p := ⟨b, 1, none⟩) hb).trans h.c1, (k.cell (p := ⟨b, 2, none⟩) hb).trans h.c2, (k.cell (p := ⟨b, 3, none⟩) hb).trans h.c3, (k.cell (p := ⟨b, 4, none⟩) hb).trans h.c4, (k.cell (p := ⟨b, 5, none⟩) hb).trans h.c5⟩
theorem PtAt.room {w : World} {b : Nat} {p : Pt} (h : PtAt w b p) : b < w.heap.size := World.block_lt_of_cell? w _ h.c0
theorem PtAt.alloc {w : World} {b : Nat} {p : Pt} (h : PtAt w b p) (o : Obj) : PtAt (w.alloc o) b p := h.below ((Below.refl _ _).alloc (Nat.le_refl _) o) h.room
theorem seq_ne {a b : ByteArray} (h : ¬ a = b) : (a.toList == b.toList) = false := by
  rw [ByteArray.toList_eq, ByteArray.toList_eq]
  apply Bool.eq_false_iff.2
  intro e
  exact h (ByteArray.ext (Array.toList_inj.1 (eq_of_beq e)))
theorem seq_eq {a b : ByteArray} (h : a = b) : (a.toList == b.toList) = true := by subst h; simp
/-- One text is bytewise less than another one. -/
def lessB (a b : ByteArray) : Bool := Op.bytesLess a.toList b.toList
def Pt.before (a b : Pt) : Bool := lessB a.s b.s || (decide (a.s = b.s) && decide (a.t < b.t))
def Pt.newer (a b : Pt) : Bool := decide (a.s = b.s) && decide (a.t = b.t) && b.st.lt a.st

def Rec.same (a b : Rec) : Bool := sameL a.d b.d && decide (a.k = b.k) && decide (a.s = b.s) && decide (a.t = b.t) && decide (a.v = b.v) && decide (a.tier = b.tier) && decide (a.st = b.st)

set_option maxHeartbeats 4000000 in
theorem rsamer_is (a b : Rec) (da db : Value) (z : Bool) (w : World) (ha : Ns w da a.d) (hb : Ns w db b.d) (H : Hid (a.same b = z)) : Calls Try.prog 14 #[recV a da, recV b db] w fun e w' => e = .returned (.bool z) ∧ Below w.heap.size w w' := by
  have HB : Below w.heap.size w ((w.alloc (.cells #[.int .i64 a.k, .string a.s, .int .i64 a.t, .int .i64 a.v, .int .i64 a.tier, .int .i64 a.st.c, .int .i64 a.st.s, .int .i64 a.st.q, da] 33)).alloc (.cells #[.int .i64 b.k, .string b.s, .int .i64 b.t, .int .i64 b.v, .int .i64 b.tier, .int .i64 b.st.c, .int .i64 b.st.s, .int .i64 b.st.q, db] 33)) := bel_new ((Below.refl _ _).alloc (Nat.le_refl _) _) _
  have hR := (RecAt.new w a da).below ((Below.refl _ _).alloc (Nat.le_refl _) (.cells #[.int .i64 b.k, .string b.s, .int .i64 b.t, .int .i64 b.v, .int .i64 b.tier, .int .i64 b.st.c, .int .i64 b.st.s, .int .i64 b.st.q, db] 33)) (RecAt.new w a da).room
  have hT : RecAt ((w.alloc (.cells #[.int .i64 a.k, .string a.s, .int .i64 a.t, .int .i64 a.v, .int .i64 a.tier, .int .i64 a.st.c, .int .i64 a.st.s, .int .i64 a.st.q, da] 33)).alloc (.cells #[.int .i64 b.k, .string b.s, .int .i64 b.t, .int .i64 b.v, .int .i64 b.tier, .int .i64 b.st.c, .int .i64 b.st.s, .int .i64 b.st.q, db] 33)) (w.heap.size + 1) b db := by have := RecAt.new (w.alloc (.cells #[.int .i64 a.k, .string a.s, .int .i64 a.t, .int .i64 a.v, .int .i64 a.tier, .int .i64 a.st.c, .int .i64 a.st.s, .int .i64 a.st.q, da] 33)) b db; simpa using this
  have hN1 := ha.later HB
  have hN2 := hb.later HB
  have ks := fun w h1 h2 => rsameN da db a.d b.d w h1 h2
  have H := H.out
  unfold Rec.same at H
  have qst : ∀ w, (binOp .eql 31 (.agg #[.int .i64 a.st.c, .int .i64 a.st.s, .int .i64 a.st.q]) (.agg #[.int .i64 b.st.c, .int .i64 b.st.s, .int .i64 b.st.q])).run Try.prog w = .ok (.bool (decide (a.st = b.st))) w := fun w => eql_run a.st b.st w
  unfold recV
  clear ha hb
  cases hd : sameL a.d b.d with
  | false =>
    rw [hd] at ks H
    have HZ := Lib.hid (show false = z from by rw [← H]; simp [])
    clear H hd
    go_enter Try.func14, Try.ntmps14
    go_wp2_with (go_at_call 18; (with_reducible refine (ks _ hN1 hN2).mono ?_); rintro e w1 ⟨rfl, hb1⟩; have HA1 := hR.below hb1 hR.room; have HB1 := hT.below hb1 hT.room; obtain ⟨x0, x1, x2, x3, x4, x5, x6, x7, x8⟩ := HA1; obtain ⟨y0, y1, y2, y3, y4, y5, y6, y7, y8⟩ := HB1)
    go_ret
    exact ⟨by rw [← HZ.out]; rfl, bel_next HB hb1⟩
  | true =>
    rw [hd] at ks H
    by_cases e0 : a.k = b.k
    · have q0 := (show (a.k == b.k) = true by simpa using e0)
      by_cases e1 : a.s = b.s
      · have q1 := seq_eq e1
        by_cases e2 : a.t = b.t
        · have q2 := (show (a.t == b.t) = true by simpa using e2)
          by_cases e3 : a.v = b.v
          · have q3 := (show (a.v == b.v) = true by simpa using e3)
            by_cases e4 : a.tier = b.tier
            · have q4 := (show (a.tier == b.tier) = true by simpa using e4)
              have HZ := Lib.hid (show decide (a.st = b.st) = z from by rw [← H]; simp [e0, e1, e2, e3, e4])
              clear H hd e0 e1 e2 e3 e4
              go_enter Try.func14, Try.ntmps14
              go_wp2_with (go_at_call 18; (with_reducible refine (ks _ hN1 hN2).mono ?_); rintro e w1 ⟨rfl, hb1⟩; have HA1 := hR.below hb1 hR.room; have HB1 := hT.below hb1 hT.room; obtain ⟨x0, x1, x2, x3, x4, x5, x6, x7, x8⟩ := HA1; obtain ⟨y0, y1, y2, y3, y4, y5, y6, y7, y8⟩ := HB1)
              go_ret
              exact ⟨by rw [← HZ.out]; rfl, bel_next HB hb1⟩
            · have q4 := (show (a.tier == b.tier) = false by simpa using e4)
              have HZ := Lib.hid (show false = z from by rw [← H]; simp [e0, e1, e2, e3, e4])
              clear H hd e0 e1 e2 e3 e4
              go_enter Try.func14, Try.ntmps14
              go_wp2_with (go_at_call 18; (with_reducible refine (ks _ hN1 hN2).mono ?_); rintro e w1 ⟨rfl, hb1⟩; have HA1 := hR.below hb1 hR.room; have HB1 := hT.below hb1 hT.room; obtain ⟨x0, x1, x2, x3, x4, x5, x6, x7, x8⟩ := HA1; obtain ⟨y0, y1, y2, y3, y4, y5, y6, y7, y8⟩ := HB1)
              go_ret
              exact ⟨by rw [← HZ.out]; rfl, bel_next HB hb1⟩
          · have q3 := (show (a.v == b.v) = false by simpa using e3)
            have HZ := Lib.hid (show false = z from by rw [← H]; simp [e0, e1, e2, e3])
            clear H hd e0 e1 e2 e3
            go_enter Try.func14, Try.ntmps14
            go_wp2_with (go_at_call 18; (with_reducible refine (ks _ hN1 hN2).mono ?_); rintro e w1 ⟨rfl, hb1⟩; have HA1 := hR.below hb1 hR.room; have HB1 := hT.below hb1 hT.room; obtain ⟨x0, x1, x2, x3, x4, x5, x6, x7, x8⟩ := HA1; obtain ⟨y0, y1, y2, y3, y4, y5, y6, y7, y8⟩ := HB1)
            go_ret
            exact ⟨by rw [← HZ.out]; rfl, bel_next HB hb1⟩
        · have q2 := (show (a.t == b.t) = false by simpa using e2)
          have HZ := Lib.hid (show false = z from by rw [← H]; simp [e0, e1, e2])
          clear H hd e0 e1 e2
          go_enter Try.func14, Try.ntmps14
          go_wp2_with (go_at_call 18; (with_reducible refine (ks _ hN1 hN2).mono ?_); rintro e w1 ⟨rfl, hb1⟩; have HA1 := hR.below hb1 hR.room; have HB1 := hT.below hb1 hT.room; obtain ⟨x0, x1, x2, x3, x4, x5, x6, x7, x8⟩ := HA1; obtain ⟨y0, y1, y2, y3, y4, y5, y6, y7, y8⟩ := HB1)
          go_ret
          exact ⟨by rw [← HZ.out]; rfl, bel_next HB hb1⟩
      · have q1 := seq_ne e1
        have HZ := Lib.hid (show false = z from by rw [← H]; simp [e0, e1])
        clear H hd e0 e1
        go_enter Try.func14, Try.ntmps14
        go_wp2_with (go_at_call 18; (with_reducible refine (ks _ hN1 hN2).mono ?_); rintro e w1 ⟨rfl, hb1⟩; have HA1 := hR.below hb1 hR.room; have HB1 := hT.below hb1 hT.room; obtain ⟨x0, x1, x2, x3, x4, x5, x6, x7, x8⟩ := HA1; obtain ⟨y0, y1, y2, y3, y4, y5, y6, y7, y8⟩ := HB1)
        go_ret
        exact ⟨by rw [← HZ.out]; rfl, bel_next HB hb1⟩
    · have q0 := (show (a.k == b.k) = false by simpa using e0)
      have HZ := Lib.hid (show false = z from by rw [← H]; simp [e0])
      clear H hd e0
      go_enter Try.func14, Try.ntmps14
      go_wp2_with (go_at_call 18; (with_reducible refine (ks _ hN1 hN2).mono ?_); rintro e w1 ⟨rfl, hb1⟩; have HA1 := hR.below hb1 hR.room; have HB1 := hT.below hb1 hT.room; obtain ⟨x0, x1, x2, x3, x4, x5, x6, x7, x8⟩ := HA1; obtain ⟨y0, y1, y2, y3, y4, y5, y6, y7, y8⟩ := HB1)
      go_ret
      exact ⟨by rw [← HZ.out]; rfl, bel_next HB hb1⟩
end Go.Proofs.Ythifmfgnblecbaa

/- Slices of points: one that came in, and one that the call makes. -/
set_option maxRecDepth 20000
namespace Go.Proofs.Ythifmfgnblecbaa
open Go.RowKit Go.Proofs.Ythifmfgnblecbaa.Vi Go.Proofs.Ythifmfgnblecbaa.Mk

structure Pt.fits (p : Pt) : Prop where
  s : p.s.size ≤ 9223372036854775807
  t : -9223372036854775808 ≤ p.t ∧ p.t ≤ 9223372036854775807
  v : -9223372036854775808 ≤ p.v ∧ p.v ≤ 9223372036854775807
def Pt.zero : Pt := ⟨⟨#[]⟩, 0, 0, ⟨0, 0, 0⟩⟩
def cells6 (p : Pt) : List Value := [.string p.s, .int .i64 p.t, .int .i64 p.v, .int .i64 p.st.c, .int .i64 p.st.s, .int .i64 p.st.q]
/-- A point's six cells in block b from o on. -/
structure PtO (w : World) (b o : Nat) (p : Pt) : Prop where
  c0 : w.cell? ⟨b, o, none⟩ = some (.string p.s)
  c1 : w.cell? ⟨b, o + 1, none⟩ = some (.int .i64 p.t)
  c2 : w.cell? ⟨b, o + 2, none⟩ = some (.int .i64 p.v)
  c3 : w.cell? ⟨b, o + 3, none⟩ = some (.int .i64 p.st.c)
  c4 : w.cell? ⟨b, o + 4, none⟩ = some (.int .i64 p.st.s)
  c5 : w.cell? ⟨b, o + 5, none⟩ = some (.int .i64 p.st.q)
theorem PtO.room {w : World} {b o : Nat} {p : Pt} (h : PtO w b o p) : b < w.heap.size := World.block_lt_of_cell? w _ h.c0
theorem PtO.below {w w' : World} {b o B : Nat} {p : Pt} (h : PtO w b o p) (k : Below B w w') (hb : b < B) : PtO w' b o p :=
  ⟨(k.cell (p := ⟨b, o, none⟩) hb).trans h.c0, (k.cell (p := ⟨b, o + 1, none⟩) hb).trans h.c1, (k.cell (p := ⟨b, o + 2, none⟩) hb).trans h.c2, (k.cell (p := ⟨b, o + 3, none⟩) hb).trans h.c3, (k.cell (p := ⟨b, o + 4, none⟩) hb).trans h.c4, (k.cell (p := ⟨b, o + 5, none⟩) hb).trans h.c5⟩
theorem PtO.but {w w' : World} {b o d : Nat} {p : Pt} (h : PtO w b o p) (k : But d w w') (hd : b ≠ d) : PtO w' b o p :=
  ⟨(k.cell (p := ⟨b, o, none⟩) hd h.room).trans h.c0, (k.cell (p := ⟨b, o + 1, none⟩) hd h.room).trans h.c1, (k.cell (p := ⟨b, o + 2, none⟩) hd h.room).trans h.c2, (k.cell (p := ⟨b, o + 3, none⟩) hd h.room).trans h.c3, (k.cell (p := ⟨b, o + 4, none⟩) hd h.room).trans h.c4, (k.cell (p := ⟨b, o + 5, none⟩) hd h.room).trans h.c5⟩
/-- A slice of the points l, in a block below B. -/
structure Pts (w : World) (B : Nat) (a : Option Addr) (l : List Pt) : Prop where
  at_ : l = [] ∨ ∃ b off, a = some ⟨b, off, none⟩ ∧ b < B ∧ ∀ j (h : j < l.length), PtO w b (off + j * 6) l[j]
theorem Pts.below {w w' : World} {B : Nat} {a : Option Addr} {l : List Pt} (h : Pts w B a l) (k : Below B w w') : Pts w' B a l := by
  rcases h.at_ with h | ⟨b, off, e, hb, hc⟩
  · exact ⟨Or.inl h⟩
  · exact ⟨Or.inr ⟨b, off, e, hb, fun j hj => (hc j hj).below k hb⟩⟩
theorem Pts.mono {w : World} {B B' : Nat} {a : Option Addr} {l : List Pt} (h : Pts w B a l) (k : B ≤ B') : Pts w B' a l := by
  rcases h.at_ with h | ⟨b, off, e, hb, hc⟩
  · exact ⟨Or.inl h⟩
  · exact ⟨Or.inr ⟨b, off, e, by omega, hc⟩⟩
theorem Pts.but {w w' : World} {B d : Nat} {a : Option Addr} {l : List Pt} (h : Pts w B a l) (k : But d w w') (hd : B ≤ d) : Pts w' B a l := by
  rcases h.at_ with h | ⟨b, off, e, hb, hc⟩
  · exact ⟨Or.inl h⟩
  · exact ⟨Or.inr ⟨b, off, e, hb, fun j hj => (hc j hj).but k (by omega)⟩⟩
theorem Pts.take {w : World} {B : Nat} {a : Option Addr} {l : List Pt} (h : Pts w B a l) (n : Nat) : Pts w B a (l.take n) := by
  rcases h.at_ with h | ⟨b, off, e, hb, hc⟩
  · exact ⟨Or.inl (by rw [h]; simp)⟩
  · exact ⟨Or.inr ⟨b, off, e, hb, fun j hj => by rw [List.getElem_take]; exact hc j (by rw [List.length_take] at hj; omega)⟩⟩
/-- A slice of points that came in. -/
structure ArgPts (w : World) (a : Option Addr) (len cap : Nat) : Prop where
  has : ∃ l : List Pt, l.length = len ∧ Pts w w.heap.size a l ∧ len ≤ 9223372036854775807 ∧ ∀ p ∈ l, p.fits

theorem flat6_len (l : List Pt) : (l.flatMap cells6).length = l.length * 6 := by
  induction l with
  | nil => rfl
  | cons a t ih =>
    have e : (a :: t).flatMap cells6 = cells6 a ++ t.flatMap cells6 := by simp
    rw [e, List.length_append, ih, List.length_cons]
    show 6 + t.length * 6 = _
    omega
theorem flat6_at (l : List Pt) : ∀ i (h : i < l.length) r, r < 6 → (l.flatMap cells6)[i * 6 + r]? = (cells6 l[i])[r]? := by
  induction l with
  | nil => intro i h; simp at h
  | cons a t ih =>
    intro i h r hr
    have e : (a :: t).flatMap cells6 = cells6 a ++ t.flatMap cells6 := by simp
    have hl : (cells6 a).length = 6 := rfl
    rw [e]
    cases i with
    | zero =>
      rw [List.getElem?_append_left (by omega)]
      simp
    | succ i =>
      rw [List.getElem?_append_right (by omega), hl]
      have e2 : (i + 1) * 6 + r - 6 = i * 6 + r := by omega
      rw [e2, ih i (by simpa using h) r hr]
      simp
end Go.Proofs.Ythifmfgnblecbaa

/- The contracts of the program's letter, digit, isTime and Name. -/
set_option maxRecDepth 20000
namespace Go.Proofs.Ythifmfgnblecbaa
open Go.RowKit Go.Proofs.Ythifmfgnblecbaa.Vi

theorem letter_is (b : UInt8) (z : Bool) (w : World) (H : Hid (decide (97 ≤ b.toNat ∧ b.toNat ≤ 122) = z)) : Calls Try.prog 63 #[.int .u8 (b.toNat : Int)] w fun e w' => e = .returned (.bool z) ∧ w = w' := by
  by_cases h0 : 97 ≤ b.toNat
  · have g0 : (97 : Int) ≤ (b.toNat : Int) := by omega
    by_cases h1 : b.toNat ≤ 122
    · have g1 : (b.toNat : Int) ≤ 122 := by omega
      have HZ : Hid (z = true) := by show _ = _; rw [← H.out]; exact decide_eq_true ⟨h0, h1⟩
      go_enter Try.func63, Try.ntmps63
      go_wp2
      go_ret
      exact ⟨by rw [HZ.out]; rfl, rfl⟩
    · have g1 : ¬ (b.toNat : Int) ≤ 122 := by omega
      have HZ : Hid (z = false) := by show _ = _; rw [← H.out]; exact decide_eq_false fun h => h1 h.2
      go_enter Try.func63, Try.ntmps63
      go_wp2
      go_ret
      exact ⟨by rw [HZ.out]; rfl, rfl⟩
  · have g0 : ¬ (97 : Int) ≤ (b.toNat : Int) := by omega
    have HZ : Hid (z = false) := by show _ = _; rw [← H.out]; exact decide_eq_false fun h => h0 h.1
    go_enter Try.func63, Try.ntmps63
    go_wp2
    go_ret
    exact ⟨by rw [HZ.out]; rfl, rfl⟩
theorem digit_is (b : UInt8) (z : Bool) (w : World) (H : Hid (decide (48 ≤ b.toNat ∧ b.toNat ≤ 57) = z)) : Calls Try.prog 64 #[.int .u8 (b.toNat : Int)] w fun e w' => e = .returned (.bool z) ∧ w = w' := by
  by_cases h0 : 48 ≤ b.toNat
  · have g0 : (48 : Int) ≤ (b.toNat : Int) := by omega
    by_cases h1 : b.toNat ≤ 57
    · have g1 : (b.toNat : Int) ≤ 57 := by omega
      have HZ : Hid (z = true) := by show _ = _; rw [← H.out]; exact decide_eq_true ⟨h0, h1⟩
      go_enter Try.func64, Try.ntmps64
      go_wp2
      go_ret
      exact ⟨by rw [HZ.out]; rfl, rfl⟩
    · have g1 : ¬ (b.toNat : Int) ≤ 57 := by omega
      have HZ : Hid (z = false) := by show _ = _; rw [← H.out]; exact decide_eq_false fun h => h1 h.2
      go_enter Try.func64, Try.ntmps64
      go_wp2
      go_ret
      exact ⟨by rw [HZ.out]; rfl, rfl⟩
  · have g0 : ¬ (48 : Int) ≤ (b.toNat : Int) := by omega
    have HZ : Hid (z = false) := by show _ = _; rw [← H.out]; exact decide_eq_false fun h => h0 h.1
    go_enter Try.func64, Try.ntmps64
    go_wp2
    go_ret
    exact ⟨by rw [HZ.out]; rfl, rfl⟩
theorem time_is (t : Int) (z : Bool) (w : World) (H : Hid (decide (0 ≤ t ∧ t ≤ 1099511627776) = z)) : Calls Try.prog 54 #[.int .i64 t] w fun e w' => e = .returned (.bool z) ∧ w = w' := by
  by_cases h0 : 0 ≤ t
  · by_cases h1 : t ≤ 1099511627776
    · have HZ : Hid (z = true) := by show _ = _; rw [← H.out]; exact decide_eq_true ⟨h0, h1⟩
      go_enter Try.func54, Try.ntmps54
      go_wp2
      go_ret
      exact ⟨by rw [HZ.out]; rfl, rfl⟩
    · have HZ : Hid (z = false) := by show _ = _; rw [← H.out]; exact decide_eq_false fun h => h1 h.2
      go_enter Try.func54, Try.ntmps54
      go_wp2
      go_ret
      exact ⟨by rw [HZ.out]; rfl, rfl⟩
  · have HZ : Hid (z = false) := by show _ = _; rw [← H.out]; exact decide_eq_false fun h => h0 h.1
    go_enter Try.func54, Try.ntmps54
    go_wp2
    go_ret
    exact ⟨by rw [HZ.out]; rfl, rfl⟩

set_option maxHeartbeats 2000000 in
theorem name_is (s : ByteArray) (c : Bool) (w : World) (hs : s.size ≤ 1000000000) (H : Hid (nameB s = c)) : Calls Try.prog 53 #[.string s] w fun e w' => e = .returned (.bool c) ∧ w = w' := by
  have hl : s.data.toList.length = s.size := by simp
  by_cases h0 : s.size = 0
  · have e0 : s = ⟨#[]⟩ := ByteArray.ext (Array.toList_inj.1 (List.eq_nil_of_length_eq_zero (by rw [hl]; exact h0)))
    have HF : Hid (false = c) := by show _ = _; rw [← H.out]; exact (nameL_short (by rw [hl]; omega)).symm
    subst e0
    clear H h0 hl
    go_enter Try.func53, Try.ntmps53
    go_wp2
    go_ret
    exact ⟨by rw [← HF.out]; rfl, rfl⟩
  have hne : (s.toList == []) = false := by
    apply Bool.eq_false_iff.2
    intro e
    have e := eq_of_beq e
    rw [ByteArray.toList_eq] at e
    exact h0 (by rw [← hl, e]; rfl)
  by_cases h40 : 40 < s.size
  · have HF : Hid (false = c) := by show _ = _; rw [← H.out]; exact (nameL_short (by rw [hl]; omega)).symm
    have h2 : (40 : Int) < (s.size : Int) := by omega
    clear H h0 hl
    go_enter Try.func53, Try.ntmps53
    go_wp2
    go_ret
    exact ⟨by rw [← HF.out]; rfl, rfl⟩
  have h2 : ¬ (40 : Int) < (s.size : Int) := by omega
  obtain ⟨b0, hb0⟩ : ∃ b, s[0]'(by omega) = b := ⟨_, rfl⟩
  have hb0L : s.data.toList[0]'(by rw [hl]; omega) = b0 := by rw [← hb0]; rfl
  have hz0 : 0 < s.size := by omega
  have hz1 : (0 : Int) < (s.size : Int) := by omega
  by_cases hfirst : 97 ≤ b0.toNat ∧ b0.toNat ≤ 122
  · have kl := fun w => letter_is b0 true w (Lib.hid (decide_eq_true hfirst))
    have HYES := Lib.hid (fun hc => nameL_yes (s := s.data.toList) (by rw [hl]; omega) (by rw [hl]; omega) (by rw [hb0L]; exact hfirst) hc)
    clear hb0L hfirst
    go_enter Try.func53, Try.ntmps53
    go_wp2_with (go_at_call 63; (with_reducible refine (kl _).mono ?_); rintro e w1 ⟨rfl, rfl⟩)
    go_loop [19] (fun i => ∃ k : Nat, k ≤ s.size ∧ i = .int .i64 (k : Int) ∧ Hid (∀ j (hj : j < s.data.toList.length), j < k → nameC s.data.toList[j] = true)) (fun i => s.size - (intOf i).toNat)
    case atStart => exact ⟨0, Nat.zero_le _, rfl, Lib.hid fun j _ hj => absurd hj (Nat.not_lt_zero _)⟩
    case round =>
      obtain ⟨k, hk, rfl, hall⟩ := hrel
      clear hb0
      by_cases hlt : k < s.size
      · obtain ⟨b, hb⟩ : ∃ b, s[k] = b := ⟨_, rfl⟩
        have hbL : s.data.toList[k]'(by rw [hl]; exact hlt) = b := by rw [← hb]; rfl
        have hbb := b.toNat_lt
        have hlti : (k : Int) < (s.size : Int) := by omega
        have HNO := Lib.hid (fun (h : nameC b = false) => show false = c by rw [← H.out]; exact (nameL_no (k := k) (by rw [hl]; exact hlt) (by rw [hbL]; exact h)).symm)
        have HGO := Lib.hid (fun (h : nameC b = true) => show ∀ j (hj : j < s.data.toList.length), j < k + 1 → nameC s.data.toList[j] = true from fun j hj hjk => by
          by_cases e : j = k
          · subst e; rw [hbL]; exact h
          · exact hall.out j hj (by omega))
        have kl2 := fun w => letter_is b _ w (Lib.hid rfl)
        have kd2 := fun w => digit_is b _ w (Lib.hid rfl)
        clear hbL hall kl
        cases hL : decide (97 ≤ b.toNat ∧ b.toNat ≤ 122) with
        | true =>
          rw [hL] at kl2
          have hg : nameC b = true := by unfold nameC; rw [hL]; rfl
          have HH := Lib.hid (HGO.out hg)
          clear hg HGO HNO hL kd2
          go_wp2_with (go_at_call 63; (with_reducible refine (kl2 _).mono ?_); rintro e w1 ⟨rfl, rfl⟩)
          go_round
          case rel => exact ⟨k + 1, by omega, by go_num, HH⟩
          case measure => simp [intOf]; omega
        | false =>
          cases hD : decide (48 ≤ b.toNat ∧ b.toNat ≤ 57) with
          | true =>
            rw [hL] at kl2
            rw [hD] at kd2
            have hg : nameC b = true := by unfold nameC; rw [hD]; simp
            have HH := Lib.hid (HGO.out hg)
            clear hg HGO HNO hL hD
            go_wp2_with (first
              | (go_at_call 63; (with_reducible refine (kl2 _).mono ?_); rintro e w1 ⟨rfl, rfl⟩)
              | (go_at_call 64; (with_reducible refine (kd2 _).mono ?_); rintro e w1 ⟨rfl, rfl⟩))
            go_round
            case rel => exact ⟨k + 1, by omega, by go_num, HH⟩
            case measure => simp [intOf]; omega
          | false =>
            have three : b.toNat = 95 ∨ (b.toNat ≠ 95 ∧ b.toNat = 46) ∨ (b.toNat ≠ 95 ∧ b.toNat ≠ 46) := by omega
            rcases three with g | ⟨g, g'⟩ | ⟨g, g'⟩
            · have h5 : ((b.toNat : Int) == 95) = true := by simp; omega
              have h5' : ((b.toNat : Int) != 95) = false := by simp; omega
              rw [hL] at kl2
              rw [hD] at kd2
              have hg : nameC b = true := by unfold nameC; simp; omega
              have HH := Lib.hid (HGO.out hg)
              clear hg HGO HNO hL hD g
              go_wp2_with (first
                | (go_at_call 63; (with_reducible refine (kl2 _).mono ?_); rintro e w1 ⟨rfl, rfl⟩)
                | (go_at_call 64; (with_reducible refine (kd2 _).mono ?_); rintro e w1 ⟨rfl, rfl⟩))
              go_round
              case rel => exact ⟨k + 1, by omega, by go_num, HH⟩
              case measure => simp [intOf]; omega
            · have h5 : ((b.toNat : Int) == 95) = false := by simp; omega
              have h5' : ((b.toNat : Int) != 95) = true := by simp; omega
              have h6 : ((b.toNat : Int) == 46) = true := by simp; omega
              have h6' : ((b.toNat : Int) != 46) = false := by simp; omega
              rw [hL] at kl2
              rw [hD] at kd2
              have hg : nameC b = true := by unfold nameC; simp; omega
              have HH := Lib.hid (HGO.out hg)
              clear hg HGO HNO hL hD g g'
              go_wp2_with (first
                | (go_at_call 63; (with_reducible refine (kl2 _).mono ?_); rintro e w1 ⟨rfl, rfl⟩)
                | (go_at_call 64; (with_reducible refine (kd2 _).mono ?_); rintro e w1 ⟨rfl, rfl⟩))
              go_round
              case rel => exact ⟨k + 1, by omega, by go_num, HH⟩
              case measure => simp [intOf]; omega
            · have h5 : ((b.toNat : Int) == 95) = false := by simp; omega
              have h5' : ((b.toNat : Int) != 95) = true := by simp; omega
              have h6 : ((b.toNat : Int) == 46) = false := by simp; omega
              have h6' : ((b.toNat : Int) != 46) = true := by simp; omega
              have hg : nameC b = false := by unfold nameC; rw [hL, hD]; simp; omega
              rw [hL] at kl2
              rw [hD] at kd2
              have HH := Lib.hid (HNO.out hg)
              clear hg HGO HNO hL hD g g'
              go_wp2_with (first
                | (go_at_call 63; (with_reducible refine (kl2 _).mono ?_); rintro e w1 ⟨rfl, rfl⟩)
                | (go_at_call 64; (with_reducible refine (kd2 _).mono ?_); rintro e w1 ⟨rfl, rfl⟩))
              go_ret
              exact ⟨by rw [← HH.out]; rfl, rfl⟩
      · have hlti : ¬ (k : Int) < (s.size : Int) := by omega
        have HE : Hid (true = c) := by show _ = _; rw [← H.out]; exact (HYES.out fun j hj => hall.out j hj (by rw [hl] at hj; omega)).symm
        clear hall
        go_wp2
        go_ret
        exact ⟨by rw [← HE.out]; rfl, rfl⟩
  · have kl := fun w => letter_is b0 false w (Lib.hid (decide_eq_false hfirst))
    have HF : Hid (false = c) := by show _ = _; rw [← H.out]; exact (nameL_first (s := s.data.toList) (by rw [hl]; omega) (by rw [hb0L]; exact hfirst)).symm
    clear hb0L hfirst H
    go_enter Try.func53, Try.ntmps53
    go_wp2_with (go_at_call 63; (with_reducible refine (kl _).mono ?_); rintro e w1 ⟨rfl, rfl⟩)
    go_ret
    exact ⟨by rw [← HF.out]; rfl, rfl⟩
end Go.Proofs.Ythifmfgnblecbaa

/- The contracts of the program's CheckPoint, Before and Newer; orders of texts. -/
set_option maxRecDepth 20000
namespace Go.Proofs.Ythifmfgnblecbaa
open Go.RowKit Go.Proofs.Ythifmfgnblecbaa.Vi Go.Proofs.Ythifmfgnblecbaa.Mk

theorem bl_self : ∀ x : List UInt8, Op.bytesLess x x = false
  | [] => rfl
  | a :: x => by
    unfold Op.bytesLess
    rw [bl_self x]
    simp
theorem bl_not : ∀ x y : List UInt8, Op.bytesLess x y = true → Op.bytesLess y x = false
  | [], [], h => by cases h
  | [], _ :: _, _ => rfl
  | _ :: _, [], h => by cases h
  | a :: x, b :: y, h => by
    unfold Op.bytesLess at h ⊢
    rw [Bool.or_eq_true, Bool.and_eq_true] at h
    rw [Bool.or_eq_false_iff]
    rcases h with h | ⟨h1, h2⟩
    · have h : a < b := of_decide_eq_true h
      have h' : a.toNat < b.toNat := h
      refine ⟨decide_eq_false fun k : b < a => ?_, ?_⟩
      · have k' : b.toNat < a.toNat := k
        omega
      · have : (b == a) = false := by
          rw [beq_eq_false_iff_ne]; rintro rfl; omega
        rw [this]; rfl
    · obtain rfl := eq_of_beq h1
      refine ⟨decide_eq_false fun k : a < a => ?_, ?_⟩
      · have k' : a.toNat < a.toNat := k
        omega
      · rw [bl_not x y h2]; simp
theorem bl_or : ∀ x y : List UInt8, x ≠ y → Op.bytesLess x y = false → Op.bytesLess y x = true
  | [], [], h, _ => absurd rfl h
  | [], _ :: _, _, h => by cases h
  | _ :: _, [], _, _ => rfl
  | a :: x, b :: y, hne, h => by
    unfold Op.bytesLess at h ⊢
    rw [Bool.or_eq_false_iff] at h
    obtain ⟨h1, h2⟩ := h
    have h1 : ¬ a < b := of_decide_eq_false h1
    have h1' : ¬ a.toNat < b.toNat := h1
    by_cases e : a = b
    · subst e
      have hxy : x ≠ y := fun e => hne (by rw [e])
      have h2 : Op.bytesLess x y = false := by simpa using h2
      rw [bl_or x y hxy h2]; simp
    · have : decide (b < a) = true := decide_eq_true (show b.toNat < a.toNat by
        have : a.toNat ≠ b.toNat := fun k => e (UInt8.toNat_inj.1 k)
        omega)
      rw [this]; rfl
theorem bl_trans : ∀ x y z : List UInt8, Op.bytesLess x y = true → Op.bytesLess y z = true → Op.bytesLess x z = true
  | [], [], _, h, _ => by cases h
  | [], _ :: _, [], _, h => by cases h
  | [], _ :: _, _ :: _, _, _ => rfl
  | _ :: _, [], _, h, _ => by cases h
  | _ :: _, _ :: _, [], _, h => by cases h
  | a :: x, b :: y, c :: z, h, k => by
    unfold Op.bytesLess at h k ⊢
    rw [Bool.or_eq_true, Bool.and_eq_true] at h k ⊢
    rcases h with h | ⟨h1, h2⟩
    · have h' : a.toNat < b.toNat := of_decide_eq_true h
      left
      refine decide_eq_true (show a.toNat < c.toNat from ?_)
      rcases k with k | ⟨k1, k2⟩
      · have k' : b.toNat < c.toNat := of_decide_eq_true k
        omega
      · obtain rfl := eq_of_beq k1
        exact h'
    · obtain rfl := eq_of_beq h1
      rcases k with k | ⟨k1, k2⟩
      · exact Or.inl k
      · exact Or.inr ⟨k1, bl_trans x y z h2 k2⟩
theorem lessB_self (a : ByteArray) : lessB a a = false := bl_self _
theorem lessB_not {a b : ByteArray} (h : lessB a b = true) : lessB b a = false := bl_not _ _ h
theorem lessB_or {a b : ByteArray} (h : a ≠ b) (k : lessB a b = false) : lessB b a = true := bl_or _ _ (fun e => h (by rw [ByteArray.toList_eq, ByteArray.toList_eq] at e; exact ByteArray.ext (Array.toList_inj.1 e))) k
theorem lessB_trans {a b c : ByteArray} (h : lessB a b = true) (k : lessB b c = true) : lessB a c = true := bl_trans _ _ _ h k
theorem lessB_ne {a b : ByteArray} (h : lessB a b = true) : a ≠ b := fun e => by rw [e, lessB_self] at h; cases h

/-- What a point has of a record. -/
def Rec.stored (r : Rec) : Pt := ⟨r.s, r.t, r.v, r.st⟩
end Go.Proofs.Ythifmfgnblecbaa

/- The contract of the document's Check of records. -/
set_option maxRecDepth 20000
namespace Go.Proofs.Ythifmfgnblecbaa
open Go.RowKit Go.Proofs.Ythifmfgnblecbaa.Vi Go.Proofs.Ythifmfgnblecbaa.Mk


set_option maxHeartbeats 4000000 in
theorem rck_time (r : Rec) (dv : Value) (w : World) (h : Ns w dv r.d) (h1 : decide (0 ≤ r.t ∧ r.t ≤ 1099511627776) = false) : Calls Try.prog 41 #[recV r dv] w fun e w' => e = .returned (.int .i64 r.err) ∧ Below w.heap.size w w' := by
  have kt := fun w => rtime_is r.t false w h1
  have kr := fun w h => rright_is dv r.d w h
  rw [show sameL r.d (plainL r.d) = sameL r.d (plainL r.d) from rfl] at kr
  have HE := Lib.hid (Rec.err_head (Rec.head_time h1))
  clear h1
  have H0 := RHeld.new (r := r) h
  unfold recV
  clear h
  go_enter Try.func41, Try.ntmps41
  go_wp2_with (first
    | (go_at_call 58; (with_reducible refine (kt _).mono ?_); rintro e w1 ⟨rfl, rfl⟩)
    | (go_at_call 59; (with_reducible refine (kr _ H0.ns).mono ?_); rintro e w2 ⟨rfl, hb2⟩))
  have H1 := H0.keep hb2
  clear hb2 H0 kt kr
  refine wp_region_held_drew (S := (RHeld w w.heap.size r dv)) (by kernel_rfl) H1.drew (fun hHeld => ?_)
  refine wpAnyH_take (i := 0) (oi := ?orck_time1o) (v := ?orck_time1v) ?orck_time1h (by kernel_rfl) (by kernel_rfl) (by kernel_rfl) ?orck_time1q ?orck_time1y hHeld ?orck_time1r
  case orck_time1h => (simp only [List.getElem?_toArray, List.getElem?_cons_zero]; rfl)
  case orck_time1q => exact fun _ _ _ h => h
  case orck_time1y => (refine Or.inl ⟨by first | kernel_rfl | rfl, ?_⟩; intro w hSw; (try dsimp only at hSw); obtain ⟨⟨x0, x1, x2, x3, x4, x5, x6, x7, x8⟩, -, -⟩ := hSw; go_simp <;> (try with_reducible rfl))
  try simp only [Act.put, List.setIfInBounds_toArray, List.set_cons_zero, List.set_cons_succ]
  refine wpAnyH_take (i := 1) (oi := ?orck_time2o) (v := ?orck_time2v) ?orck_time2h (by kernel_rfl) (by kernel_rfl) (by kernel_rfl) ?orck_time2q ?orck_time2y hHeld ?orck_time2r
  case orck_time2h => (simp only [List.getElem?_toArray, List.getElem?_cons_succ, List.getElem?_cons_zero]; rfl)
  case orck_time2q => exact fun _ _ _ h => h
  case orck_time2y => (refine Or.inl ⟨by first | kernel_rfl | rfl, ?_⟩; intro w hSw; (try dsimp only at hSw); obtain ⟨⟨x0, x1, x2, x3, x4, x5, x6, x7, x8⟩, -, -⟩ := hSw; go_simp <;> (try with_reducible rfl))
  try simp only [Act.put, List.setIfInBounds_toArray, List.set_cons_zero, List.set_cons_succ]
  refine wpAnyH_take (i := 2) (oi := ?orck_time3o) (v := ?orck_time3v) ?orck_time3h (by kernel_rfl) (by kernel_rfl) (by kernel_rfl) ?orck_time3q ?orck_time3y hHeld ?orck_time3r
  case orck_time3h => (simp only [List.getElem?_toArray, List.getElem?_cons_succ, List.getElem?_cons_zero]; rfl)
  case orck_time3q => exact fun _ _ _ h => h
  case orck_time3y => (refine Or.inl ⟨by first | kernel_rfl | rfl, ?_⟩; intro w hSw; (try dsimp only at hSw); obtain ⟨⟨x0, x1, x2, x3, x4, x5, x6, x7, x8⟩, -, -⟩ := hSw; go_simp <;> (try with_reducible rfl))
  try simp only [Act.put, List.setIfInBounds_toArray, List.set_cons_zero, List.set_cons_succ]
  refine wpAnyH_take (i := 3) (oi := ?orck_time4o) (v := undef) ?orck_time4h (by kernel_rfl) (by kernel_rfl) (by kernel_rfl) ?orck_time4q ?orck_time4y hHeld ?orck_time4r
  case orck_time4h => (simp only [List.getElem?_toArray, List.getElem?_cons_succ, List.getElem?_cons_zero]; rfl)
  case orck_time4q => exact fun _ _ _ h => h
  case orck_time4y => exact Or.inr ⟨by first | kernel_rfl | rfl, rfl⟩
  try simp only [Act.put, List.setIfInBounds_toArray, List.set_cons_zero, List.set_cons_succ]
  refine wpAnyH_take (i := 4) (oi := ?orck_time5o) (v := undef) ?orck_time5h (by kernel_rfl) (by kernel_rfl) (by kernel_rfl) ?orck_time5q ?orck_time5y hHeld ?orck_time5r
  case orck_time5h => (simp only [List.getElem?_toArray, List.getElem?_cons_succ, List.getElem?_cons_zero]; rfl)
  case orck_time5q => exact fun _ _ _ h => h
  case orck_time5y => exact Or.inr ⟨by first | kernel_rfl | rfl, rfl⟩
  try simp only [Act.put, List.setIfInBounds_toArray, List.set_cons_zero, List.set_cons_succ]
  refine wpAnyH_take (i := 5) (oi := ?orck_time6o) (v := ?orck_time6v) ?orck_time6h (by kernel_rfl) (by kernel_rfl) (by kernel_rfl) ?orck_time6q ?orck_time6y hHeld ?orck_time6r
  case orck_time6h => (simp only [List.getElem?_toArray, List.getElem?_cons_succ, List.getElem?_cons_zero]; rfl)
  case orck_time6q => exact fun _ _ _ h => h
  case orck_time6y => (refine Or.inl ⟨by first | kernel_rfl | rfl, ?_⟩; intro w hSw; (try dsimp only at hSw); obtain ⟨⟨x0, x1, x2, x3, x4, x5, x6, x7, x8⟩, -, -⟩ := hSw; go_simp <;> (try with_reducible rfl))
  try simp only [Act.put, List.setIfInBounds_toArray, List.set_cons_zero, List.set_cons_succ]
  refine wpAnyH_take (i := 6) (oi := ?orck_time7o) (v := ?orck_time7v) ?orck_time7h (by kernel_rfl) (by kernel_rfl) (by kernel_rfl) ?orck_time7q ?orck_time7y hHeld ?orck_time7r
  case orck_time7h => (simp only [List.getElem?_toArray, List.getElem?_cons_succ, List.getElem?_cons_zero]; rfl)
  case orck_time7q => exact fun _ _ _ h => h
  case orck_time7y => (refine Or.inl ⟨by first | kernel_rfl | rfl, ?_⟩; intro w hSw; (try dsimp only at hSw); obtain ⟨⟨x0, x1, x2, x3, x4, x5, x6, x7, x8⟩, -, -⟩ := hSw; go_simp <;> (try with_reducible rfl))
  try simp only [Act.put, List.setIfInBounds_toArray, List.set_cons_zero, List.set_cons_succ]
  refine wpAnyH_take (i := 7) (oi := ?orck_time8o) (v := undef) ?orck_time8h (by kernel_rfl) (by kernel_rfl) (by kernel_rfl) ?orck_time8q ?orck_time8y hHeld ?orck_time8r
  case orck_time8h => (simp only [List.getElem?_toArray, List.getElem?_cons_succ, List.getElem?_cons_zero]; rfl)
  case orck_time8q => exact fun _ _ _ h => h
  case orck_time8y => exact Or.inr ⟨by first | kernel_rfl | rfl, rfl⟩
  try simp only [Act.put, List.setIfInBounds_toArray, List.set_cons_zero, List.set_cons_succ]
  refine wpAnyH_take (i := 8) (oi := ?orck_time9o) (v := undef) ?orck_time9h (by kernel_rfl) (by kernel_rfl) (by kernel_rfl) ?orck_time9q ?orck_time9y hHeld ?orck_time9r
  case orck_time9h => (simp only [List.getElem?_toArray, List.getElem?_cons_succ, List.getElem?_cons_zero]; rfl)
  case orck_time9q => exact fun _ _ _ h => h
  case orck_time9y => exact Or.inr ⟨by first | kernel_rfl | rfl, rfl⟩
  try simp only [Act.put, List.setIfInBounds_toArray, List.set_cons_zero, List.set_cons_succ]
  refine wpAnyH_take (i := 9) (oi := ?orck_time10o) (v := undef) ?orck_time10h (by kernel_rfl) (by kernel_rfl) (by kernel_rfl) ?orck_time10q ?orck_time10y hHeld ?orck_time10r
  case orck_time10h => (simp only [List.getElem?_toArray, List.getElem?_cons_succ, List.getElem?_cons_zero]; rfl)
  case orck_time10q => exact fun _ _ _ h => h
  case orck_time10y => exact Or.inr ⟨by first | kernel_rfl | rfl, rfl⟩
  try simp only [Act.put, List.setIfInBounds_toArray, List.set_cons_zero, List.set_cons_succ]
  refine wpAnyH_take (i := 10) (oi := ?orck_time11o) (v := undef) ?orck_time11h (by kernel_rfl) (by kernel_rfl) (by kernel_rfl) ?orck_time11q ?orck_time11y hHeld ?orck_time11r
  case orck_time11h => (simp only [List.getElem?_toArray, List.getElem?_cons_succ, List.getElem?_cons_zero]; rfl)
  case orck_time11q => exact fun _ _ _ h => h
  case orck_time11y => exact Or.inr ⟨by first | kernel_rfl | rfl, rfl⟩
  try simp only [Act.put, List.setIfInBounds_toArray, List.set_cons_zero, List.set_cons_succ]
  refine wpAnyH_take (i := 11) (oi := ?orck_time12o) (v := ?orck_time12v) ?orck_time12h (by kernel_rfl) (by kernel_rfl) (by kernel_rfl) ?orck_time12q ?orck_time12y hHeld ?orck_time12r
  case orck_time12h => (simp only [List.getElem?_toArray, List.getElem?_cons_succ, List.getElem?_cons_zero]; rfl)
  case orck_time12q => exact fun _ _ _ h => h
  case orck_time12y => (refine Or.inl ⟨by first | kernel_rfl | rfl, ?_⟩; intro w hSw; (try dsimp only at hSw); obtain ⟨⟨x0, x1, x2, x3, x4, x5, x6, x7, x8⟩, -, -⟩ := hSw; go_simp <;> (try with_reducible rfl))
  try simp only [Act.put, List.setIfInBounds_toArray, List.set_cons_zero, List.set_cons_succ]
  refine wpAnyH_take (i := 12) (oi := ?orck_time13o) (v := ?orck_time13v) ?orck_time13h (by kernel_rfl) (by kernel_rfl) (by kernel_rfl) ?orck_time13q ?orck_time13y hHeld ?orck_time13r
  case orck_time13h => (simp only [List.getElem?_toArray, List.getElem?_cons_succ, List.getElem?_cons_zero]; rfl)
  case orck_time13q => exact fun _ _ _ h => h
  case orck_time13y => (refine Or.inl ⟨by first | kernel_rfl | rfl, ?_⟩; intro w hSw; (try dsimp only at hSw); obtain ⟨⟨x0, x1, x2, x3, x4, x5, x6, x7, x8⟩, -, -⟩ := hSw; go_simp <;> (try with_reducible rfl))
  try simp only [Act.put, List.setIfInBounds_toArray, List.set_cons_zero, List.set_cons_succ]
  refine wpAnyH_take (i := 13) (oi := ?orck_time14o) (v := undef) ?orck_time14h (by kernel_rfl) (by kernel_rfl) (by kernel_rfl) ?orck_time14q ?orck_time14y hHeld ?orck_time14r
  case orck_time14h => (simp only [List.getElem?_toArray, List.getElem?_cons_succ, List.getElem?_cons_zero]; rfl)
  case orck_time14q => exact fun _ _ _ h => h
  case orck_time14y => exact Or.inr ⟨by first | kernel_rfl | rfl, rfl⟩
  try simp only [Act.put, List.setIfInBounds_toArray, List.set_cons_zero, List.set_cons_succ]
  refine wpAnyH_take (i := 14) (oi := ?orck_time15o) (v := undef) ?orck_time15h (by kernel_rfl) (by kernel_rfl) (by kernel_rfl) ?orck_time15q ?orck_time15y hHeld ?orck_time15r
  case orck_time15h => (simp only [List.getElem?_toArray, List.getElem?_cons_succ, List.getElem?_cons_zero]; rfl)
  case orck_time15q => exact fun _ _ _ h => h
  case orck_time15y => exact Or.inr ⟨by first | kernel_rfl | rfl, rfl⟩
  try simp only [Act.put, List.setIfInBounds_toArray, List.set_cons_zero, List.set_cons_succ]
  refine wpAnyH_take (i := 15) (oi := ?orck_time16o) (v := undef) ?orck_time16h (by kernel_rfl) (by kernel_rfl) (by kernel_rfl) ?orck_time16q ?orck_time16y hHeld ?orck_time16r
  case orck_time16h => (simp only [List.getElem?_toArray, List.getElem?_cons_succ, List.getElem?_cons_zero]; rfl)
  case orck_time16q => exact fun _ _ _ h => h
  case orck_time16y => exact Or.inr ⟨by first | kernel_rfl | rfl, rfl⟩
  try simp only [Act.put, List.setIfInBounds_toArray, List.set_cons_zero, List.set_cons_succ]
  refine wpAnyH_take (i := 16) (oi := ?orck_time17o) (v := undef) ?orck_time17h (by kernel_rfl) (by kernel_rfl) (by kernel_rfl) ?orck_time17q ?orck_time17y hHeld ?orck_time17r
  case orck_time17h => (simp only [List.getElem?_toArray, List.getElem?_cons_succ, List.getElem?_cons_zero]; rfl)
  case orck_time17q => exact fun _ _ _ h => h
  case orck_time17y => exact Or.inr ⟨by first | kernel_rfl | rfl, rfl⟩
  try simp only [Act.put, List.setIfInBounds_toArray, List.set_cons_zero, List.set_cons_succ]
  refine wpAnyH_take (i := 17) (oi := ?orck_time18o) (v := undef) ?orck_time18h (by kernel_rfl) (by kernel_rfl) (by kernel_rfl) ?orck_time18q ?orck_time18y hHeld ?orck_time18r
  case orck_time18h => (simp only [List.getElem?_toArray, List.getElem?_cons_succ, List.getElem?_cons_zero]; rfl)
  case orck_time18q => exact fun _ _ _ h => h
  case orck_time18y => exact Or.inr ⟨by first | kernel_rfl | rfl, rfl⟩
  try simp only [Act.put, List.setIfInBounds_toArray, List.set_cons_zero, List.set_cons_succ]
  refine wpAnyH_take (i := 18) (oi := ?orck_time19o) (v := undef) ?orck_time19h (by kernel_rfl) (by kernel_rfl) (by kernel_rfl) ?orck_time19q ?orck_time19y hHeld ?orck_time19r
  case orck_time19h => (simp only [List.getElem?_toArray, List.getElem?_cons_succ, List.getElem?_cons_zero]; rfl)
  case orck_time19q => exact fun _ _ _ h => h
  case orck_time19y => exact Or.inr ⟨by first | kernel_rfl | rfl, rfl⟩
  try simp only [Act.put, List.setIfInBounds_toArray, List.set_cons_zero, List.set_cons_succ]
  refine wpAnyH_take (i := 19) (oi := ?orck_time20o) (v := undef) ?orck_time20h (by kernel_rfl) (by kernel_rfl) (by kernel_rfl) ?orck_time20q ?orck_time20y hHeld ?orck_time20r
  case orck_time20h => (simp only [List.getElem?_toArray, List.getElem?_cons_succ, List.getElem?_cons_zero]; rfl)
  case orck_time20q => exact fun _ _ _ h => h
  case orck_time20y => exact Or.inr ⟨by first | kernel_rfl | rfl, rfl⟩
  try simp only [Act.put, List.setIfInBounds_toArray, List.set_cons_zero, List.set_cons_succ]
  refine wpAnyH_take (i := 20) (oi := ?orck_time21o) (v := undef) ?orck_time21h (by kernel_rfl) (by kernel_rfl) (by kernel_rfl) ?orck_time21q ?orck_time21y hHeld ?orck_time21r
  case orck_time21h => (simp only [List.getElem?_toArray, List.getElem?_cons_succ, List.getElem?_cons_zero]; rfl)
  case orck_time21q => exact fun _ _ _ h => h
  case orck_time21y => exact Or.inr ⟨by first | kernel_rfl | rfl, rfl⟩
  try simp only [Act.put, List.setIfInBounds_toArray, List.set_cons_zero, List.set_cons_succ]
  refine wpAnyH_take (i := 21) (oi := ?orck_time22o) (v := undef) ?orck_time22h (by kernel_rfl) (by kernel_rfl) (by kernel_rfl) ?orck_time22q ?orck_time22y hHeld ?orck_time22r
  case orck_time22h => (simp only [List.getElem?_toArray, List.getElem?_cons_succ, List.getElem?_cons_zero]; rfl)
  case orck_time22q => exact fun _ _ _ h => h
  case orck_time22y => exact Or.inr ⟨by first | kernel_rfl | rfl, rfl⟩
  try simp only [Act.put, List.setIfInBounds_toArray, List.set_cons_zero, List.set_cons_succ]
  refine wpAnyH_take (i := 22) (oi := ?orck_time23o) (v := undef) ?orck_time23h (by kernel_rfl) (by kernel_rfl) (by kernel_rfl) ?orck_time23q ?orck_time23y hHeld ?orck_time23r
  case orck_time23h => (simp only [List.getElem?_toArray, List.getElem?_cons_succ, List.getElem?_cons_zero]; rfl)
  case orck_time23q => exact fun _ _ _ h => h
  case orck_time23y => exact Or.inr ⟨by first | kernel_rfl | rfl, rfl⟩
  try simp only [Act.put, List.setIfInBounds_toArray, List.set_cons_zero, List.set_cons_succ]
  refine wpAnyH_take (i := 23) (oi := ?orck_time24o) (v := undef) ?orck_time24h (by kernel_rfl) (by kernel_rfl) (by kernel_rfl) ?orck_time24q ?orck_time24y hHeld ?orck_time24r
  case orck_time24h => (simp only [List.getElem?_toArray, List.getElem?_cons_succ, List.getElem?_cons_zero]; rfl)
  case orck_time24q => exact fun _ _ _ h => h
  case orck_time24y => exact Or.inr ⟨by first | kernel_rfl | rfl, rfl⟩
  try simp only [Act.put, List.setIfInBounds_toArray, List.set_cons_zero, List.set_cons_succ]
  refine wpAnyH_take (i := 24) (oi := ?orck_time25o) (v := ?orck_time25v) ?orck_time25h (by kernel_rfl) (by kernel_rfl) (by kernel_rfl) ?orck_time25q ?orck_time25y hHeld ?orck_time25r
  case orck_time25h => (simp only [List.getElem?_toArray, List.getElem?_cons_succ, List.getElem?_cons_zero]; rfl)
  case orck_time25q => exact fun _ _ _ h => h
  case orck_time25y => (refine Or.inl ⟨by first | kernel_rfl | rfl, ?_⟩; intro w hSw; (try dsimp only at hSw); obtain ⟨⟨x0, x1, x2, x3, x4, x5, x6, x7, x8⟩, -, -⟩ := hSw; go_simp <;> (try with_reducible rfl))
  try simp only [Act.put, List.setIfInBounds_toArray, List.set_cons_zero, List.set_cons_succ]
  refine wpAnyH_done (by kernel_rfl) ?_ _
  have hbel := hHeld.bel
  go_wp2
  go_ret
  exact ⟨by rw [HE.out]; rfl, hbel⟩

set_option maxHeartbeats 4000000 in
theorem rck_deps (r : Rec) (dv : Value) (w : World) (h : Ns w dv r.d) (h1 : decide (0 ≤ r.t ∧ r.t ≤ 1099511627776) = true) (h2 : sameL r.d (plainL r.d) = false) : Calls Try.prog 41 #[recV r dv] w fun e w' => e = .returned (.int .i64 r.err) ∧ Below w.heap.size w w' := by
  have kt := fun w => rtime_is r.t true w h1
  have kr := fun w h => rright_is dv r.d w h
  rw [h2] at kr
  have HE := Lib.hid (Rec.err_head (Rec.head_deps h2))
  clear h1 h2
  have H0 := RHeld.new (r := r) h
  unfold recV
  clear h
  go_enter Try.func41, Try.ntmps41
  go_wp2_with (first
    | (go_at_call 58; (with_reducible refine (kt _).mono ?_); rintro e w1 ⟨rfl, rfl⟩)
    | (go_at_call 59; (with_reducible refine (kr _ H0.ns).mono ?_); rintro e w2 ⟨rfl, hb2⟩))
  have H1 := H0.keep hb2
  clear hb2 H0 kt kr
  refine wp_region_held_drew (S := (RHeld w w.heap.size r dv)) (by kernel_rfl) H1.drew (fun hHeld => ?_)
  refine wpAnyH_take (i := 0) (oi := ?orck_deps1o) (v := ?orck_deps1v) ?orck_deps1h (by kernel_rfl) (by kernel_rfl) (by kernel_rfl) ?orck_deps1q ?orck_deps1y hHeld ?orck_deps1r
  case orck_deps1h => (simp only [List.getElem?_toArray, List.getElem?_cons_zero]; rfl)
  case orck_deps1q => exact fun _ _ _ h => h
  case orck_deps1y => (refine Or.inl ⟨by first | kernel_rfl | rfl, ?_⟩; intro w hSw; (try dsimp only at hSw); obtain ⟨⟨x0, x1, x2, x3, x4, x5, x6, x7, x8⟩, -, -⟩ := hSw; go_simp <;> (try with_reducible rfl))
  try simp only [Act.put, List.setIfInBounds_toArray, List.set_cons_zero, List.set_cons_succ]
  refine wpAnyH_take (i := 1) (oi := ?orck_deps2o) (v := ?orck_deps2v) ?orck_deps2h (by kernel_rfl) (by kernel_rfl) (by kernel_rfl) ?orck_deps2q ?orck_deps2y hHeld ?orck_deps2r
  case orck_deps2h => (simp only [List.getElem?_toArray, List.getElem?_cons_succ, List.getElem?_cons_zero]; rfl)
  case orck_deps2q => exact fun _ _ _ h => h
  case orck_deps2y => (refine Or.inl ⟨by first | kernel_rfl | rfl, ?_⟩; intro w hSw; (try dsimp only at hSw); obtain ⟨⟨x0, x1, x2, x3, x4, x5, x6, x7, x8⟩, -, -⟩ := hSw; go_simp <;> (try with_reducible rfl))
  try simp only [Act.put, List.setIfInBounds_toArray, List.set_cons_zero, List.set_cons_succ]
  refine wpAnyH_take (i := 2) (oi := ?orck_deps3o) (v := ?orck_deps3v) ?orck_deps3h (by kernel_rfl) (by kernel_rfl) (by kernel_rfl) ?orck_deps3q ?orck_deps3y hHeld ?orck_deps3r
  case orck_deps3h => (simp only [List.getElem?_toArray, List.getElem?_cons_succ, List.getElem?_cons_zero]; rfl)
  case orck_deps3q => exact fun _ _ _ h => h
  case orck_deps3y => (refine Or.inl ⟨by first | kernel_rfl | rfl, ?_⟩; intro w hSw; (try dsimp only at hSw); obtain ⟨⟨x0, x1, x2, x3, x4, x5, x6, x7, x8⟩, -, -⟩ := hSw; go_simp <;> (try with_reducible rfl))
  try simp only [Act.put, List.setIfInBounds_toArray, List.set_cons_zero, List.set_cons_succ]
  refine wpAnyH_take (i := 3) (oi := ?orck_deps4o) (v := ?orck_deps4v) ?orck_deps4h (by kernel_rfl) (by kernel_rfl) (by kernel_rfl) ?orck_deps4q ?orck_deps4y hHeld ?orck_deps4r
  case orck_deps4h => (simp only [List.getElem?_toArray, List.getElem?_cons_succ, List.getElem?_cons_zero]; rfl)
  case orck_deps4q => exact fun _ _ _ h => h
  case orck_deps4y => (refine Or.inl ⟨by first | kernel_rfl | rfl, ?_⟩; intro w hSw; (try dsimp only at hSw); obtain ⟨⟨x0, x1, x2, x3, x4, x5, x6, x7, x8⟩, -, -⟩ := hSw; go_simp <;> (try with_reducible rfl))
  try simp only [Act.put, List.setIfInBounds_toArray, List.set_cons_zero, List.set_cons_succ]
  refine wpAnyH_take (i := 4) (oi := ?orck_deps5o) (v := ?orck_deps5v) ?orck_deps5h (by kernel_rfl) (by kernel_rfl) (by kernel_rfl) ?orck_deps5q ?orck_deps5y hHeld ?orck_deps5r
  case orck_deps5h => (simp only [List.getElem?_toArray, List.getElem?_cons_succ, List.getElem?_cons_zero]; rfl)
  case orck_deps5q => exact fun _ _ _ h => h
  case orck_deps5y => (refine Or.inl ⟨by first | kernel_rfl | rfl, ?_⟩; intro w hSw; (try dsimp only at hSw); obtain ⟨⟨x0, x1, x2, x3, x4, x5, x6, x7, x8⟩, -, -⟩ := hSw; go_simp <;> (try with_reducible rfl))
  try simp only [Act.put, List.setIfInBounds_toArray, List.set_cons_zero, List.set_cons_succ]
  refine wpAnyH_take (i := 5) (oi := ?orck_deps6o) (v := ?orck_deps6v) ?orck_deps6h (by kernel_rfl) (by kernel_rfl) (by kernel_rfl) ?orck_deps6q ?orck_deps6y hHeld ?orck_deps6r
  case orck_deps6h => (simp only [List.getElem?_toArray, List.getElem?_cons_succ, List.getElem?_cons_zero]; rfl)
  case orck_deps6q => exact fun _ _ _ h => h
  case orck_deps6y => (refine Or.inl ⟨by first | kernel_rfl | rfl, ?_⟩; intro w hSw; (try dsimp only at hSw); obtain ⟨⟨x0, x1, x2, x3, x4, x5, x6, x7, x8⟩, -, -⟩ := hSw; go_simp <;> (try with_reducible rfl))
  try simp only [Act.put, List.setIfInBounds_toArray, List.set_cons_zero, List.set_cons_succ]
  refine wpAnyH_take (i := 6) (oi := ?orck_deps7o) (v := ?orck_deps7v) ?orck_deps7h (by kernel_rfl) (by kernel_rfl) (by kernel_rfl) ?orck_deps7q ?orck_deps7y hHeld ?orck_deps7r
  case orck_deps7h => (simp only [List.getElem?_toArray, List.getElem?_cons_succ, List.getElem?_cons_zero]; rfl)
  case orck_deps7q => exact fun _ _ _ h => h
  case orck_deps7y => (refine Or.inl ⟨by first | kernel_rfl | rfl, ?_⟩; intro w hSw; (try dsimp only at hSw); obtain ⟨⟨x0, x1, x2, x3, x4, x5, x6, x7, x8⟩, -, -⟩ := hSw; go_simp <;> (try with_reducible rfl))
  try simp only [Act.put, List.setIfInBounds_toArray, List.set_cons_zero, List.set_cons_succ]
  refine wpAnyH_take (i := 7) (oi := ?orck_deps8o) (v := undef) ?orck_deps8h (by kernel_rfl) (by kernel_rfl) (by kernel_rfl) ?orck_deps8q ?orck_deps8y hHeld ?orck_deps8r
  case orck_deps8h => (simp only [List.getElem?_toArray, List.getElem?_cons_succ, List.getElem?_cons_zero]; rfl)
  case orck_deps8q => exact fun _ _ _ h => h
  case orck_deps8y => exact Or.inr ⟨by first | kernel_rfl | rfl, rfl⟩
  try simp only [Act.put, List.setIfInBounds_toArray, List.set_cons_zero, List.set_cons_succ]
  refine wpAnyH_take (i := 8) (oi := ?orck_deps9o) (v := undef) ?orck_deps9h (by kernel_rfl) (by kernel_rfl) (by kernel_rfl) ?orck_deps9q ?orck_deps9y hHeld ?orck_deps9r
  case orck_deps9h => (simp only [List.getElem?_toArray, List.getElem?_cons_succ, List.getElem?_cons_zero]; rfl)
  case orck_deps9q => exact fun _ _ _ h => h
  case orck_deps9y => exact Or.inr ⟨by first | kernel_rfl | rfl, rfl⟩
  try simp only [Act.put, List.setIfInBounds_toArray, List.set_cons_zero, List.set_cons_succ]
  refine wpAnyH_take (i := 9) (oi := ?orck_deps10o) (v := undef) ?orck_deps10h (by kernel_rfl) (by kernel_rfl) (by kernel_rfl) ?orck_deps10q ?orck_deps10y hHeld ?orck_deps10r
  case orck_deps10h => (simp only [List.getElem?_toArray, List.getElem?_cons_succ, List.getElem?_cons_zero]; rfl)
  case orck_deps10q => exact fun _ _ _ h => h
  case orck_deps10y => exact Or.inr ⟨by first | kernel_rfl | rfl, rfl⟩
  try simp only [Act.put, List.setIfInBounds_toArray, List.set_cons_zero, List.set_cons_succ]
  refine wpAnyH_take (i := 10) (oi := ?orck_deps11o) (v := undef) ?orck_deps11h (by kernel_rfl) (by kernel_rfl) (by kernel_rfl) ?orck_deps11q ?orck_deps11y hHeld ?orck_deps11r
  case orck_deps11h => (simp only [List.getElem?_toArray, List.getElem?_cons_succ, List.getElem?_cons_zero]; rfl)
  case orck_deps11q => exact fun _ _ _ h => h
  case orck_deps11y => exact Or.inr ⟨by first | kernel_rfl | rfl, rfl⟩
  try simp only [Act.put, List.setIfInBounds_toArray, List.set_cons_zero, List.set_cons_succ]
  refine wpAnyH_take (i := 11) (oi := ?orck_deps12o) (v := ?orck_deps12v) ?orck_deps12h (by kernel_rfl) (by kernel_rfl) (by kernel_rfl) ?orck_deps12q ?orck_deps12y hHeld ?orck_deps12r
  case orck_deps12h => (simp only [List.getElem?_toArray, List.getElem?_cons_succ, List.getElem?_cons_zero]; rfl)
  case orck_deps12q => exact fun _ _ _ h => h
  case orck_deps12y => (refine Or.inl ⟨by first | kernel_rfl | rfl, ?_⟩; intro w hSw; (try dsimp only at hSw); obtain ⟨⟨x0, x1, x2, x3, x4, x5, x6, x7, x8⟩, -, -⟩ := hSw; go_simp <;> (try with_reducible rfl))
  try simp only [Act.put, List.setIfInBounds_toArray, List.set_cons_zero, List.set_cons_succ]
  refine wpAnyH_take (i := 12) (oi := ?orck_deps13o) (v := ?orck_deps13v) ?orck_deps13h (by kernel_rfl) (by kernel_rfl) (by kernel_rfl) ?orck_deps13q ?orck_deps13y hHeld ?orck_deps13r
  case orck_deps13h => (simp only [List.getElem?_toArray, List.getElem?_cons_succ, List.getElem?_cons_zero]; rfl)
  case orck_deps13q => exact fun _ _ _ h => h
  case orck_deps13y => (refine Or.inl ⟨by first | kernel_rfl | rfl, ?_⟩; intro w hSw; (try dsimp only at hSw); obtain ⟨⟨x0, x1, x2, x3, x4, x5, x6, x7, x8⟩, -, -⟩ := hSw; go_simp <;> (try with_reducible rfl))
  try simp only [Act.put, List.setIfInBounds_toArray, List.set_cons_zero, List.set_cons_succ]
  refine wpAnyH_take (i := 13) (oi := ?orck_deps14o) (v := undef) ?orck_deps14h (by kernel_rfl) (by kernel_rfl) (by kernel_rfl) ?orck_deps14q ?orck_deps14y hHeld ?orck_deps14r
  case orck_deps14h => (simp only [List.getElem?_toArray, List.getElem?_cons_succ, List.getElem?_cons_zero]; rfl)
  case orck_deps14q => exact fun _ _ _ h => h
  case orck_deps14y => exact Or.inr ⟨by first | kernel_rfl | rfl, rfl⟩
  try simp only [Act.put, List.setIfInBounds_toArray, List.set_cons_zero, List.set_cons_succ]
  refine wpAnyH_take (i := 14) (oi := ?orck_deps15o) (v := undef) ?orck_deps15h (by kernel_rfl) (by kernel_rfl) (by kernel_rfl) ?orck_deps15q ?orck_deps15y hHeld ?orck_deps15r
  case orck_deps15h => (simp only [List.getElem?_toArray, List.getElem?_cons_succ, List.getElem?_cons_zero]; rfl)
  case orck_deps15q => exact fun _ _ _ h => h
  case orck_deps15y => exact Or.inr ⟨by first | kernel_rfl | rfl, rfl⟩
  try simp only [Act.put, List.setIfInBounds_toArray, List.set_cons_zero, List.set_cons_succ]
  refine wpAnyH_take (i := 15) (oi := ?orck_deps16o) (v := undef) ?orck_deps16h (by kernel_rfl) (by kernel_rfl) (by kernel_rfl) ?orck_deps16q ?orck_deps16y hHeld ?orck_deps16r
  case orck_deps16h => (simp only [List.getElem?_toArray, List.getElem?_cons_succ, List.getElem?_cons_zero]; rfl)
  case orck_deps16q => exact fun _ _ _ h => h
  case orck_deps16y => exact Or.inr ⟨by first | kernel_rfl | rfl, rfl⟩
  try simp only [Act.put, List.setIfInBounds_toArray, List.set_cons_zero, List.set_cons_succ]
  refine wpAnyH_take (i := 16) (oi := ?orck_deps17o) (v := undef) ?orck_deps17h (by kernel_rfl) (by kernel_rfl) (by kernel_rfl) ?orck_deps17q ?orck_deps17y hHeld ?orck_deps17r
  case orck_deps17h => (simp only [List.getElem?_toArray, List.getElem?_cons_succ, List.getElem?_cons_zero]; rfl)
  case orck_deps17q => exact fun _ _ _ h => h
  case orck_deps17y => exact Or.inr ⟨by first | kernel_rfl | rfl, rfl⟩
  try simp only [Act.put, List.setIfInBounds_toArray, List.set_cons_zero, List.set_cons_succ]
  refine wpAnyH_take (i := 17) (oi := ?orck_deps18o) (v := undef) ?orck_deps18h (by kernel_rfl) (by kernel_rfl) (by kernel_rfl) ?orck_deps18q ?orck_deps18y hHeld ?orck_deps18r
  case orck_deps18h => (simp only [List.getElem?_toArray, List.getElem?_cons_succ, List.getElem?_cons_zero]; rfl)
  case orck_deps18q => exact fun _ _ _ h => h
  case orck_deps18y => exact Or.inr ⟨by first | kernel_rfl | rfl, rfl⟩
  try simp only [Act.put, List.setIfInBounds_toArray, List.set_cons_zero, List.set_cons_succ]
  refine wpAnyH_take (i := 18) (oi := ?orck_deps19o) (v := undef) ?orck_deps19h (by kernel_rfl) (by kernel_rfl) (by kernel_rfl) ?orck_deps19q ?orck_deps19y hHeld ?orck_deps19r
  case orck_deps19h => (simp only [List.getElem?_toArray, List.getElem?_cons_succ, List.getElem?_cons_zero]; rfl)
  case orck_deps19q => exact fun _ _ _ h => h
  case orck_deps19y => exact Or.inr ⟨by first | kernel_rfl | rfl, rfl⟩
  try simp only [Act.put, List.setIfInBounds_toArray, List.set_cons_zero, List.set_cons_succ]
  refine wpAnyH_take (i := 19) (oi := ?orck_deps20o) (v := undef) ?orck_deps20h (by kernel_rfl) (by kernel_rfl) (by kernel_rfl) ?orck_deps20q ?orck_deps20y hHeld ?orck_deps20r
  case orck_deps20h => (simp only [List.getElem?_toArray, List.getElem?_cons_succ, List.getElem?_cons_zero]; rfl)
  case orck_deps20q => exact fun _ _ _ h => h
  case orck_deps20y => exact Or.inr ⟨by first | kernel_rfl | rfl, rfl⟩
  try simp only [Act.put, List.setIfInBounds_toArray, List.set_cons_zero, List.set_cons_succ]
  refine wpAnyH_take (i := 20) (oi := ?orck_deps21o) (v := undef) ?orck_deps21h (by kernel_rfl) (by kernel_rfl) (by kernel_rfl) ?orck_deps21q ?orck_deps21y hHeld ?orck_deps21r
  case orck_deps21h => (simp only [List.getElem?_toArray, List.getElem?_cons_succ, List.getElem?_cons_zero]; rfl)
  case orck_deps21q => exact fun _ _ _ h => h
  case orck_deps21y => exact Or.inr ⟨by first | kernel_rfl | rfl, rfl⟩
  try simp only [Act.put, List.setIfInBounds_toArray, List.set_cons_zero, List.set_cons_succ]
  refine wpAnyH_take (i := 21) (oi := ?orck_deps22o) (v := undef) ?orck_deps22h (by kernel_rfl) (by kernel_rfl) (by kernel_rfl) ?orck_deps22q ?orck_deps22y hHeld ?orck_deps22r
  case orck_deps22h => (simp only [List.getElem?_toArray, List.getElem?_cons_succ, List.getElem?_cons_zero]; rfl)
  case orck_deps22q => exact fun _ _ _ h => h
  case orck_deps22y => exact Or.inr ⟨by first | kernel_rfl | rfl, rfl⟩
  try simp only [Act.put, List.setIfInBounds_toArray, List.set_cons_zero, List.set_cons_succ]
  refine wpAnyH_take (i := 22) (oi := ?orck_deps23o) (v := undef) ?orck_deps23h (by kernel_rfl) (by kernel_rfl) (by kernel_rfl) ?orck_deps23q ?orck_deps23y hHeld ?orck_deps23r
  case orck_deps23h => (simp only [List.getElem?_toArray, List.getElem?_cons_succ, List.getElem?_cons_zero]; rfl)
  case orck_deps23q => exact fun _ _ _ h => h
  case orck_deps23y => exact Or.inr ⟨by first | kernel_rfl | rfl, rfl⟩
  try simp only [Act.put, List.setIfInBounds_toArray, List.set_cons_zero, List.set_cons_succ]
  refine wpAnyH_take (i := 23) (oi := ?orck_deps24o) (v := undef) ?orck_deps24h (by kernel_rfl) (by kernel_rfl) (by kernel_rfl) ?orck_deps24q ?orck_deps24y hHeld ?orck_deps24r
  case orck_deps24h => (simp only [List.getElem?_toArray, List.getElem?_cons_succ, List.getElem?_cons_zero]; rfl)
  case orck_deps24q => exact fun _ _ _ h => h
  case orck_deps24y => exact Or.inr ⟨by first | kernel_rfl | rfl, rfl⟩
  try simp only [Act.put, List.setIfInBounds_toArray, List.set_cons_zero, List.set_cons_succ]
  refine wpAnyH_take (i := 24) (oi := ?orck_deps25o) (v := ?orck_deps25v) ?orck_deps25h (by kernel_rfl) (by kernel_rfl) (by kernel_rfl) ?orck_deps25q ?orck_deps25y hHeld ?orck_deps25r
  case orck_deps25h => (simp only [List.getElem?_toArray, List.getElem?_cons_succ, List.getElem?_cons_zero]; rfl)
  case orck_deps25q => exact fun _ _ _ h => h
  case orck_deps25y => (refine Or.inl ⟨by first | kernel_rfl | rfl, ?_⟩; intro w hSw; (try dsimp only at hSw); obtain ⟨⟨x0, x1, x2, x3, x4, x5, x6, x7, x8⟩, -, -⟩ := hSw; go_simp <;> (try with_reducible rfl))
  try simp only [Act.put, List.setIfInBounds_toArray, List.set_cons_zero, List.set_cons_succ]
  refine wpAnyH_done (by kernel_rfl) ?_ _
  have hbel := hHeld.bel
  go_wp2
  go_ret
  exact ⟨by rw [HE.out]; rfl, hbel⟩

set_option maxHeartbeats 4000000 in
theorem rck_st (r : Rec) (dv : Value) (w : World) (h : Ns w dv r.d) (h1 : decide (0 ≤ r.t ∧ r.t ≤ 1099511627776) = true) (h2 : sameL r.d (plainL r.d) = true) (h3 : r.st.ok = false) : Calls Try.prog 41 #[recV r dv] w fun e w' => e = .returned (.int .i64 r.err) ∧ Below w.heap.size w w' := by
  have kt := fun w => rtime_is r.t true w h1
  have kr := fun w h => rright_is dv r.d w h
  rw [h2] at kr
  have HE := Lib.hid (Rec.err_head (Rec.head_st h3))
  have kc := fun w => rcheckV r.st 1 (Lib.hid (by rw [St.err_eq, h3]; rfl)) w
  clear h1 h2 h3
  have H0 := RHeld.new (r := r) h
  unfold recV
  clear h
  go_enter Try.func41, Try.ntmps41
  go_wp2_with (first
    | (go_at_call 58; (with_reducible refine (kt _).mono ?_); rintro e w1 ⟨rfl, rfl⟩)
    | (go_at_call 59; (with_reducible refine (kr _ H0.ns).mono ?_); rintro e w2 ⟨rfl, hb2⟩))
  have H1 := H0.keep hb2
  clear hb2 H0 kt kr
  refine wp_region_held_drew (S := (RHeld w w.heap.size r dv)) (by kernel_rfl) H1.drew (fun hHeld => ?_)
  refine wpAnyH_take (i := 0) (oi := ?orck_st1o) (v := ?orck_st1v) ?orck_st1h (by kernel_rfl) (by kernel_rfl) (by kernel_rfl) ?orck_st1q ?orck_st1y hHeld ?orck_st1r
  case orck_st1h => (simp only [List.getElem?_toArray, List.getElem?_cons_zero]; rfl)
  case orck_st1q => exact fun _ _ _ h => h
  case orck_st1y => (refine Or.inl ⟨by first | kernel_rfl | rfl, ?_⟩; intro w hSw; (try dsimp only at hSw); obtain ⟨⟨x0, x1, x2, x3, x4, x5, x6, x7, x8⟩, -, -⟩ := hSw; go_simp <;> (try with_reducible rfl))
  try simp only [Act.put, List.setIfInBounds_toArray, List.set_cons_zero, List.set_cons_succ]
  refine wpAnyH_take (i := 1) (oi := ?orck_st2o) (v := ?orck_st2v) ?orck_st2h (by kernel_rfl) (by kernel_rfl) (by kernel_rfl) ?orck_st2q ?orck_st2y hHeld ?orck_st2r
  case orck_st2h => (simp only [List.getElem?_toArray, List.getElem?_cons_succ, List.getElem?_cons_zero]; rfl)
  case orck_st2q => exact fun _ _ _ h => h
  case orck_st2y => (refine Or.inl ⟨by first | kernel_rfl | rfl, ?_⟩; intro w hSw; (try dsimp only at hSw); obtain ⟨⟨x0, x1, x2, x3, x4, x5, x6, x7, x8⟩, -, -⟩ := hSw; go_simp <;> (try with_reducible rfl))
  try simp only [Act.put, List.setIfInBounds_toArray, List.set_cons_zero, List.set_cons_succ]
  refine wpAnyH_take (i := 2) (oi := ?orck_st3o) (v := ?orck_st3v) ?orck_st3h (by kernel_rfl) (by kernel_rfl) (by kernel_rfl) ?orck_st3q ?orck_st3y hHeld ?orck_st3r
  case orck_st3h => (simp only [List.getElem?_toArray, List.getElem?_cons_succ, List.getElem?_cons_zero]; rfl)
  case orck_st3q => exact fun _ _ _ h => h
  case orck_st3y => (refine Or.inl ⟨by first | kernel_rfl | rfl, ?_⟩; intro w hSw; (try dsimp only at hSw); obtain ⟨⟨x0, x1, x2, x3, x4, x5, x6, x7, x8⟩, -, -⟩ := hSw; go_simp <;> (try with_reducible rfl))
  try simp only [Act.put, List.setIfInBounds_toArray, List.set_cons_zero, List.set_cons_succ]
  refine wpAnyH_take (i := 3) (oi := ?orck_st4o) (v := ?orck_st4v) ?orck_st4h (by kernel_rfl) (by kernel_rfl) (by kernel_rfl) ?orck_st4q ?orck_st4y hHeld ?orck_st4r
  case orck_st4h => (simp only [List.getElem?_toArray, List.getElem?_cons_succ, List.getElem?_cons_zero]; rfl)
  case orck_st4q => exact fun _ _ _ h => h
  case orck_st4y => (refine Or.inl ⟨by first | kernel_rfl | rfl, ?_⟩; intro w hSw; (try dsimp only at hSw); obtain ⟨⟨x0, x1, x2, x3, x4, x5, x6, x7, x8⟩, -, -⟩ := hSw; go_simp <;> (try with_reducible rfl))
  try simp only [Act.put, List.setIfInBounds_toArray, List.set_cons_zero, List.set_cons_succ]
  refine wpAnyH_take (i := 4) (oi := ?orck_st5o) (v := ?orck_st5v) ?orck_st5h (by kernel_rfl) (by kernel_rfl) (by kernel_rfl) ?orck_st5q ?orck_st5y hHeld ?orck_st5r
  case orck_st5h => (simp only [List.getElem?_toArray, List.getElem?_cons_succ, List.getElem?_cons_zero]; rfl)
  case orck_st5q => exact fun _ _ _ h => h
  case orck_st5y => (refine Or.inl ⟨by first | kernel_rfl | rfl, ?_⟩; intro w hSw; (try dsimp only at hSw); obtain ⟨⟨x0, x1, x2, x3, x4, x5, x6, x7, x8⟩, -, -⟩ := hSw; go_simp <;> (try with_reducible rfl))
  try simp only [Act.put, List.setIfInBounds_toArray, List.set_cons_zero, List.set_cons_succ]
  refine wpAnyH_take (i := 5) (oi := ?orck_st6o) (v := ?orck_st6v) ?orck_st6h (by kernel_rfl) (by kernel_rfl) (by kernel_rfl) ?orck_st6q ?orck_st6y hHeld ?orck_st6r
  case orck_st6h => (simp only [List.getElem?_toArray, List.getElem?_cons_succ, List.getElem?_cons_zero]; rfl)
  case orck_st6q => exact fun _ _ _ h => h
  case orck_st6y => (refine Or.inl ⟨by first | kernel_rfl | rfl, ?_⟩; intro w hSw; (try dsimp only at hSw); obtain ⟨⟨x0, x1, x2, x3, x4, x5, x6, x7, x8⟩, -, -⟩ := hSw; go_simp <;> (try with_reducible rfl))
  try simp only [Act.put, List.setIfInBounds_toArray, List.set_cons_zero, List.set_cons_succ]
  refine wpAnyH_take (i := 6) (oi := ?orck_st7o) (v := ?orck_st7v) ?orck_st7h (by kernel_rfl) (by kernel_rfl) (by kernel_rfl) ?orck_st7q ?orck_st7y hHeld ?orck_st7r
  case orck_st7h => (simp only [List.getElem?_toArray, List.getElem?_cons_succ, List.getElem?_cons_zero]; rfl)
  case orck_st7q => exact fun _ _ _ h => h
  case orck_st7y => (refine Or.inl ⟨by first | kernel_rfl | rfl, ?_⟩; intro w hSw; (try dsimp only at hSw); obtain ⟨⟨x0, x1, x2, x3, x4, x5, x6, x7, x8⟩, -, -⟩ := hSw; go_simp <;> (try with_reducible rfl))
  try simp only [Act.put, List.setIfInBounds_toArray, List.set_cons_zero, List.set_cons_succ]
  refine wpAnyH_take (i := 7) (oi := ?orck_st8o) (v := ?orck_st8v) ?orck_st8h (by kernel_rfl) (by kernel_rfl) (by kernel_rfl) ?orck_st8q ?orck_st8y hHeld ?orck_st8r
  case orck_st8h => (simp only [List.getElem?_toArray, List.getElem?_cons_succ, List.getElem?_cons_zero]; rfl)
  case orck_st8q => exact fun _ _ _ h => h
  case orck_st8y => (refine Or.inl ⟨by first | kernel_rfl | rfl, ?_⟩; intro w hSw; (try dsimp only at hSw); obtain ⟨⟨x0, x1, x2, x3, x4, x5, x6, x7, x8⟩, -, -⟩ := hSw; go_simp <;> (try with_reducible rfl))
  try simp only [Act.put, List.setIfInBounds_toArray, List.set_cons_zero, List.set_cons_succ]
  refine wpAnyH_take (i := 8) (oi := ?orck_st9o) (v := ?orck_st9v) ?orck_st9h (by kernel_rfl) (by kernel_rfl) (by kernel_rfl) ?orck_st9q ?orck_st9y hHeld ?orck_st9r
  case orck_st9h => (simp only [List.getElem?_toArray, List.getElem?_cons_succ, List.getElem?_cons_zero]; rfl)
  case orck_st9q => exact fun _ _ _ h => h
  case orck_st9y => (refine Or.inl ⟨by first | kernel_rfl | rfl, ?_⟩; intro w hSw; (try dsimp only at hSw); obtain ⟨⟨x0, x1, x2, x3, x4, x5, x6, x7, x8⟩, -, -⟩ := hSw; go_simp <;> (try with_reducible rfl))
  try simp only [Act.put, List.setIfInBounds_toArray, List.set_cons_zero, List.set_cons_succ]
  refine wpAnyH_ready (rs := [9]) (by kernel_rfl) (by simp) ?_
  refine (AllReadyH.cons rfl (fun K hK => ?_) AllReadyH.nil)
  go_simp
  ((with_reducible refine (kc _).mono ?_); rintro e w' ⟨rfl, hb'⟩)
  refine hK.out _ _ (hHeld.keep hb') (fun hHeld => ?_)
  clear hK K
  try simp only [Act.put, List.setIfInBounds_toArray, List.set_cons_zero, List.set_cons_succ]
  refine wpAnyH_take (i := 10) (oi := ?orck_st10o) (v := ?orck_st10v) ?orck_st10h (by kernel_rfl) (by kernel_rfl) (by kernel_rfl) ?orck_st10q ?orck_st10y hHeld ?orck_st10r
  case orck_st10h => (simp only [List.getElem?_toArray, List.getElem?_cons_succ, List.getElem?_cons_zero]; rfl)
  case orck_st10q => exact fun _ _ _ h => h
  case orck_st10y => (refine Or.inl ⟨by first | kernel_rfl | rfl, ?_⟩; intro w hSw; (try dsimp only at hSw); obtain ⟨⟨x0, x1, x2, x3, x4, x5, x6, x7, x8⟩, -, -⟩ := hSw; go_simp <;> (try with_reducible rfl))
  try simp only [Act.put, List.setIfInBounds_toArray, List.set_cons_zero, List.set_cons_succ]
  refine wpAnyH_take (i := 11) (oi := ?orck_st11o) (v := ?orck_st11v) ?orck_st11h (by kernel_rfl) (by kernel_rfl) (by kernel_rfl) ?orck_st11q ?orck_st11y hHeld ?orck_st11r
  case orck_st11h => (simp only [List.getElem?_toArray, List.getElem?_cons_succ, List.getElem?_cons_zero]; rfl)
  case orck_st11q => exact fun _ _ _ h => h
  case orck_st11y => (refine Or.inl ⟨by first | kernel_rfl | rfl, ?_⟩; intro w hSw; (try dsimp only at hSw); obtain ⟨⟨x0, x1, x2, x3, x4, x5, x6, x7, x8⟩, -, -⟩ := hSw; go_simp <;> (try with_reducible rfl))
  try simp only [Act.put, List.setIfInBounds_toArray, List.set_cons_zero, List.set_cons_succ]
  refine wpAnyH_take (i := 12) (oi := ?orck_st12o) (v := ?orck_st12v) ?orck_st12h (by kernel_rfl) (by kernel_rfl) (by kernel_rfl) ?orck_st12q ?orck_st12y hHeld ?orck_st12r
  case orck_st12h => (simp only [List.getElem?_toArray, List.getElem?_cons_succ, List.getElem?_cons_zero]; rfl)
  case orck_st12q => exact fun _ _ _ h => h
  case orck_st12y => (refine Or.inl ⟨by first | kernel_rfl | rfl, ?_⟩; intro w hSw; (try dsimp only at hSw); obtain ⟨⟨x0, x1, x2, x3, x4, x5, x6, x7, x8⟩, -, -⟩ := hSw; go_simp <;> (try with_reducible rfl))
  try simp only [Act.put, List.setIfInBounds_toArray, List.set_cons_zero, List.set_cons_succ]
  refine wpAnyH_take (i := 13) (oi := ?orck_st13o) (v := undef) ?orck_st13h (by kernel_rfl) (by kernel_rfl) (by kernel_rfl) ?orck_st13q ?orck_st13y hHeld ?orck_st13r
  case orck_st13h => (simp only [List.getElem?_toArray, List.getElem?_cons_succ, List.getElem?_cons_zero]; rfl)
  case orck_st13q => exact fun _ _ _ h => h
  case orck_st13y => exact Or.inr ⟨by first | kernel_rfl | rfl, rfl⟩
  try simp only [Act.put, List.setIfInBounds_toArray, List.set_cons_zero, List.set_cons_succ]
  refine wpAnyH_take (i := 14) (oi := ?orck_st14o) (v := undef) ?orck_st14h (by kernel_rfl) (by kernel_rfl) (by kernel_rfl) ?orck_st14q ?orck_st14y hHeld ?orck_st14r
  case orck_st14h => (simp only [List.getElem?_toArray, List.getElem?_cons_succ, List.getElem?_cons_zero]; rfl)
  case orck_st14q => exact fun _ _ _ h => h
  case orck_st14y => exact Or.inr ⟨by first | kernel_rfl | rfl, rfl⟩
  try simp only [Act.put, List.setIfInBounds_toArray, List.set_cons_zero, List.set_cons_succ]
  refine wpAnyH_take (i := 15) (oi := ?orck_st15o) (v := undef) ?orck_st15h (by kernel_rfl) (by kernel_rfl) (by kernel_rfl) ?orck_st15q ?orck_st15y hHeld ?orck_st15r
  case orck_st15h => (simp only [List.getElem?_toArray, List.getElem?_cons_succ, List.getElem?_cons_zero]; rfl)
  case orck_st15q => exact fun _ _ _ h => h
  case orck_st15y => exact Or.inr ⟨by first | kernel_rfl | rfl, rfl⟩
  try simp only [Act.put, List.setIfInBounds_toArray, List.set_cons_zero, List.set_cons_succ]
  refine wpAnyH_take (i := 16) (oi := ?orck_st16o) (v := undef) ?orck_st16h (by kernel_rfl) (by kernel_rfl) (by kernel_rfl) ?orck_st16q ?orck_st16y hHeld ?orck_st16r
  case orck_st16h => (simp only [List.getElem?_toArray, List.getElem?_cons_succ, List.getElem?_cons_zero]; rfl)
  case orck_st16q => exact fun _ _ _ h => h
  case orck_st16y => exact Or.inr ⟨by first | kernel_rfl | rfl, rfl⟩
  try simp only [Act.put, List.setIfInBounds_toArray, List.set_cons_zero, List.set_cons_succ]
  refine wpAnyH_take (i := 17) (oi := ?orck_st17o) (v := undef) ?orck_st17h (by kernel_rfl) (by kernel_rfl) (by kernel_rfl) ?orck_st17q ?orck_st17y hHeld ?orck_st17r
  case orck_st17h => (simp only [List.getElem?_toArray, List.getElem?_cons_succ, List.getElem?_cons_zero]; rfl)
  case orck_st17q => exact fun _ _ _ h => h
  case orck_st17y => exact Or.inr ⟨by first | kernel_rfl | rfl, rfl⟩
  try simp only [Act.put, List.setIfInBounds_toArray, List.set_cons_zero, List.set_cons_succ]
  refine wpAnyH_take (i := 18) (oi := ?orck_st18o) (v := undef) ?orck_st18h (by kernel_rfl) (by kernel_rfl) (by kernel_rfl) ?orck_st18q ?orck_st18y hHeld ?orck_st18r
  case orck_st18h => (simp only [List.getElem?_toArray, List.getElem?_cons_succ, List.getElem?_cons_zero]; rfl)
  case orck_st18q => exact fun _ _ _ h => h
  case orck_st18y => exact Or.inr ⟨by first | kernel_rfl | rfl, rfl⟩
  try simp only [Act.put, List.setIfInBounds_toArray, List.set_cons_zero, List.set_cons_succ]
  refine wpAnyH_take (i := 19) (oi := ?orck_st19o) (v := undef) ?orck_st19h (by kernel_rfl) (by kernel_rfl) (by kernel_rfl) ?orck_st19q ?orck_st19y hHeld ?orck_st19r
  case orck_st19h => (simp only [List.getElem?_toArray, List.getElem?_cons_succ, List.getElem?_cons_zero]; rfl)
  case orck_st19q => exact fun _ _ _ h => h
  case orck_st19y => exact Or.inr ⟨by first | kernel_rfl | rfl, rfl⟩
  try simp only [Act.put, List.setIfInBounds_toArray, List.set_cons_zero, List.set_cons_succ]
  refine wpAnyH_take (i := 20) (oi := ?orck_st20o) (v := undef) ?orck_st20h (by kernel_rfl) (by kernel_rfl) (by kernel_rfl) ?orck_st20q ?orck_st20y hHeld ?orck_st20r
  case orck_st20h => (simp only [List.getElem?_toArray, List.getElem?_cons_succ, List.getElem?_cons_zero]; rfl)
  case orck_st20q => exact fun _ _ _ h => h
  case orck_st20y => exact Or.inr ⟨by first | kernel_rfl | rfl, rfl⟩
  try simp only [Act.put, List.setIfInBounds_toArray, List.set_cons_zero, List.set_cons_succ]
  refine wpAnyH_take (i := 21) (oi := ?orck_st21o) (v := undef) ?orck_st21h (by kernel_rfl) (by kernel_rfl) (by kernel_rfl) ?orck_st21q ?orck_st21y hHeld ?orck_st21r
  case orck_st21h => (simp only [List.getElem?_toArray, List.getElem?_cons_succ, List.getElem?_cons_zero]; rfl)
  case orck_st21q => exact fun _ _ _ h => h
  case orck_st21y => exact Or.inr ⟨by first | kernel_rfl | rfl, rfl⟩
  try simp only [Act.put, List.setIfInBounds_toArray, List.set_cons_zero, List.set_cons_succ]
  refine wpAnyH_take (i := 22) (oi := ?orck_st22o) (v := undef) ?orck_st22h (by kernel_rfl) (by kernel_rfl) (by kernel_rfl) ?orck_st22q ?orck_st22y hHeld ?orck_st22r
  case orck_st22h => (simp only [List.getElem?_toArray, List.getElem?_cons_succ, List.getElem?_cons_zero]; rfl)
  case orck_st22q => exact fun _ _ _ h => h
  case orck_st22y => exact Or.inr ⟨by first | kernel_rfl | rfl, rfl⟩
  try simp only [Act.put, List.setIfInBounds_toArray, List.set_cons_zero, List.set_cons_succ]
  refine wpAnyH_take (i := 23) (oi := ?orck_st23o) (v := undef) ?orck_st23h (by kernel_rfl) (by kernel_rfl) (by kernel_rfl) ?orck_st23q ?orck_st23y hHeld ?orck_st23r
  case orck_st23h => (simp only [List.getElem?_toArray, List.getElem?_cons_succ, List.getElem?_cons_zero]; rfl)
  case orck_st23q => exact fun _ _ _ h => h
  case orck_st23y => exact Or.inr ⟨by first | kernel_rfl | rfl, rfl⟩
  try simp only [Act.put, List.setIfInBounds_toArray, List.set_cons_zero, List.set_cons_succ]
  refine wpAnyH_take (i := 24) (oi := ?orck_st24o) (v := ?orck_st24v) ?orck_st24h (by kernel_rfl) (by kernel_rfl) (by kernel_rfl) ?orck_st24q ?orck_st24y hHeld ?orck_st24r
  case orck_st24h => (simp only [List.getElem?_toArray, List.getElem?_cons_succ, List.getElem?_cons_zero]; rfl)
  case orck_st24q => exact fun _ _ _ h => h
  case orck_st24y => (refine Or.inl ⟨by first | kernel_rfl | rfl, ?_⟩; intro w hSw; (try dsimp only at hSw); obtain ⟨⟨x0, x1, x2, x3, x4, x5, x6, x7, x8⟩, -, -⟩ := hSw; go_simp <;> (try with_reducible rfl))
  try simp only [Act.put, List.setIfInBounds_toArray, List.set_cons_zero, List.set_cons_succ]
  refine wpAnyH_done (by kernel_rfl) ?_ _
  have hbel := hHeld.bel
  go_wp2
  go_ret
  exact ⟨by rw [HE.out]; rfl, hbel⟩

set_option maxHeartbeats 4000000 in
theorem rck_at (r : Rec) (dv : Value) (w : World) (h : Ns w dv r.d) (h1 : decide (0 ≤ r.t ∧ r.t ≤ 1099511627776) = true) (h2 : sameL r.d (plainL r.d) = true) (h3 : r.st.ok = true) (h4 : atL r.d r.st.s ≠ r.st.q - 1) : Calls Try.prog 41 #[recV r dv] w fun e w' => e = .returned (.int .i64 r.err) ∧ Below w.heap.size w w' := by
  have kt := fun w => rtime_is r.t true w h1
  have kr := fun w h => rright_is dv r.d w h
  rw [h2] at kr
  have kc := fun w => rcheckV r.st 0 (Lib.hid (by rw [St.err_eq, h3]; rfl)) w
  have ka := fun w h => rat_is dv r.d r.st.s w h
  obtain ⟨q1, q2, q3, q4, q5, q6⟩ := St.ok_iff.1 h3
  have hwq : IntKind.i64.wrap (r.st.q - 1) = r.st.q - 1 := by rw [IntKind.wrap_i64]; omega
  have HE := Lib.hid (Rec.err_head (Rec.head_at h4))
  have hq : (atL r.d r.st.s == r.st.q - 1) = false := by simpa using h4
  generalize atL r.d r.st.s = aa at *
  clear h1 h2 h3 h4
  have H0 := RHeld.new (r := r) h
  unfold recV
  clear h
  go_enter Try.func41, Try.ntmps41
  go_wp2_with (first
    | (go_at_call 58; (with_reducible refine (kt _).mono ?_); rintro e w1 ⟨rfl, rfl⟩)
    | (go_at_call 59; (with_reducible refine (kr _ H0.ns).mono ?_); rintro e w2 ⟨rfl, hb2⟩))
  have H1 := H0.keep hb2
  clear hb2 H0 kt kr
  refine wp_region_held_drew (S := (RHeld w w.heap.size r dv)) (by kernel_rfl) H1.drew (fun hHeld => ?_)
  refine wpAnyH_take (i := 0) (oi := ?orck_at1o) (v := ?orck_at1v) ?orck_at1h (by kernel_rfl) (by kernel_rfl) (by kernel_rfl) ?orck_at1q ?orck_at1y hHeld ?orck_at1r
  case orck_at1h => (simp only [List.getElem?_toArray, List.getElem?_cons_zero]; rfl)
  case orck_at1q => exact fun _ _ _ h => h
  case orck_at1y => (refine Or.inl ⟨by first | kernel_rfl | rfl, ?_⟩; intro w hSw; (try dsimp only at hSw); obtain ⟨⟨x0, x1, x2, x3, x4, x5, x6, x7, x8⟩, -, -⟩ := hSw; go_simp <;> (try with_reducible rfl))
  try simp only [Act.put, List.setIfInBounds_toArray, List.set_cons_zero, List.set_cons_succ]
  refine wpAnyH_take (i := 1) (oi := ?orck_at2o) (v := ?orck_at2v) ?orck_at2h (by kernel_rfl) (by kernel_rfl) (by kernel_rfl) ?orck_at2q ?orck_at2y hHeld ?orck_at2r
  case orck_at2h => (simp only [List.getElem?_toArray, List.getElem?_cons_succ, List.getElem?_cons_zero]; rfl)
  case orck_at2q => exact fun _ _ _ h => h
  case orck_at2y => (refine Or.inl ⟨by first | kernel_rfl | rfl, ?_⟩; intro w hSw; (try dsimp only at hSw); obtain ⟨⟨x0, x1, x2, x3, x4, x5, x6, x7, x8⟩, -, -⟩ := hSw; go_simp <;> (try with_reducible rfl))
  try simp only [Act.put, List.setIfInBounds_toArray, List.set_cons_zero, List.set_cons_succ]
  refine wpAnyH_take (i := 2) (oi := ?orck_at3o) (v := ?orck_at3v) ?orck_at3h (by kernel_rfl) (by kernel_rfl) (by kernel_rfl) ?orck_at3q ?orck_at3y hHeld ?orck_at3r
  case orck_at3h => (simp only [List.getElem?_toArray, List.getElem?_cons_succ, List.getElem?_cons_zero]; rfl)
  case orck_at3q => exact fun _ _ _ h => h
  case orck_at3y => (refine Or.inl ⟨by first | kernel_rfl | rfl, ?_⟩; intro w hSw; (try dsimp only at hSw); obtain ⟨⟨x0, x1, x2, x3, x4, x5, x6, x7, x8⟩, -, -⟩ := hSw; go_simp <;> (try with_reducible rfl))
  try simp only [Act.put, List.setIfInBounds_toArray, List.set_cons_zero, List.set_cons_succ]
  refine wpAnyH_take (i := 3) (oi := ?orck_at4o) (v := ?orck_at4v) ?orck_at4h (by kernel_rfl) (by kernel_rfl) (by kernel_rfl) ?orck_at4q ?orck_at4y hHeld ?orck_at4r
  case orck_at4h => (simp only [List.getElem?_toArray, List.getElem?_cons_succ, List.getElem?_cons_zero]; rfl)
  case orck_at4q => exact fun _ _ _ h => h
  case orck_at4y => (refine Or.inl ⟨by first | kernel_rfl | rfl, ?_⟩; intro w hSw; (try dsimp only at hSw); obtain ⟨⟨x0, x1, x2, x3, x4, x5, x6, x7, x8⟩, -, -⟩ := hSw; go_simp <;> (try with_reducible rfl))
  try simp only [Act.put, List.setIfInBounds_toArray, List.set_cons_zero, List.set_cons_succ]
  refine wpAnyH_take (i := 4) (oi := ?orck_at5o) (v := ?orck_at5v) ?orck_at5h (by kernel_rfl) (by kernel_rfl) (by kernel_rfl) ?orck_at5q ?orck_at5y hHeld ?orck_at5r
  case orck_at5h => (simp only [List.getElem?_toArray, List.getElem?_cons_succ, List.getElem?_cons_zero]; rfl)
  case orck_at5q => exact fun _ _ _ h => h
  case orck_at5y => (refine Or.inl ⟨by first | kernel_rfl | rfl, ?_⟩; intro w hSw; (try dsimp only at hSw); obtain ⟨⟨x0, x1, x2, x3, x4, x5, x6, x7, x8⟩, -, -⟩ := hSw; go_simp <;> (try with_reducible rfl))
  try simp only [Act.put, List.setIfInBounds_toArray, List.set_cons_zero, List.set_cons_succ]
  refine wpAnyH_take (i := 5) (oi := ?orck_at6o) (v := ?orck_at6v) ?orck_at6h (by kernel_rfl) (by kernel_rfl) (by kernel_rfl) ?orck_at6q ?orck_at6y hHeld ?orck_at6r
  case orck_at6h => (simp only [List.getElem?_toArray, List.getElem?_cons_succ, List.getElem?_cons_zero]; rfl)
  case orck_at6q => exact fun _ _ _ h => h
  case orck_at6y => (refine Or.inl ⟨by first | kernel_rfl | rfl, ?_⟩; intro w hSw; (try dsimp only at hSw); obtain ⟨⟨x0, x1, x2, x3, x4, x5, x6, x7, x8⟩, -, -⟩ := hSw; go_simp <;> (try with_reducible rfl))
  try simp only [Act.put, List.setIfInBounds_toArray, List.set_cons_zero, List.set_cons_succ]
  refine wpAnyH_take (i := 6) (oi := ?orck_at7o) (v := ?orck_at7v) ?orck_at7h (by kernel_rfl) (by kernel_rfl) (by kernel_rfl) ?orck_at7q ?orck_at7y hHeld ?orck_at7r
  case orck_at7h => (simp only [List.getElem?_toArray, List.getElem?_cons_succ, List.getElem?_cons_zero]; rfl)
  case orck_at7q => exact fun _ _ _ h => h
  case orck_at7y => (refine Or.inl ⟨by first | kernel_rfl | rfl, ?_⟩; intro w hSw; (try dsimp only at hSw); obtain ⟨⟨x0, x1, x2, x3, x4, x5, x6, x7, x8⟩, -, -⟩ := hSw; go_simp <;> (try with_reducible rfl))
  try simp only [Act.put, List.setIfInBounds_toArray, List.set_cons_zero, List.set_cons_succ]
  refine wpAnyH_take (i := 7) (oi := ?orck_at8o) (v := ?orck_at8v) ?orck_at8h (by kernel_rfl) (by kernel_rfl) (by kernel_rfl) ?orck_at8q ?orck_at8y hHeld ?orck_at8r
  case orck_at8h => (simp only [List.getElem?_toArray, List.getElem?_cons_succ, List.getElem?_cons_zero]; rfl)
  case orck_at8q => exact fun _ _ _ h => h
  case orck_at8y => (refine Or.inl ⟨by first | kernel_rfl | rfl, ?_⟩; intro w hSw; (try dsimp only at hSw); obtain ⟨⟨x0, x1, x2, x3, x4, x5, x6, x7, x8⟩, -, -⟩ := hSw; go_simp <;> (try with_reducible rfl))
  try simp only [Act.put, List.setIfInBounds_toArray, List.set_cons_zero, List.set_cons_succ]
  refine wpAnyH_take (i := 8) (oi := ?orck_at9o) (v := ?orck_at9v) ?orck_at9h (by kernel_rfl) (by kernel_rfl) (by kernel_rfl) ?orck_at9q ?orck_at9y hHeld ?orck_at9r
  case orck_at9h => (simp only [List.getElem?_toArray, List.getElem?_cons_succ, List.getElem?_cons_zero]; rfl)
  case orck_at9q => exact fun _ _ _ h => h
  case orck_at9y => (refine Or.inl ⟨by first | kernel_rfl | rfl, ?_⟩; intro w hSw; (try dsimp only at hSw); obtain ⟨⟨x0, x1, x2, x3, x4, x5, x6, x7, x8⟩, -, -⟩ := hSw; go_simp <;> (try with_reducible rfl))
  try simp only [Act.put, List.setIfInBounds_toArray, List.set_cons_zero, List.set_cons_succ]
  refine wpAnyH_ready (rs := [9]) (by kernel_rfl) (by simp) ?_
  refine (AllReadyH.cons rfl (fun K hK => ?_) AllReadyH.nil)
  go_simp
  ((with_reducible refine (kc _).mono ?_); rintro e w' ⟨rfl, hb'⟩)
  refine hK.out _ _ (hHeld.keep hb') (fun hHeld => ?_)
  clear hK K
  try simp only [Act.put, List.setIfInBounds_toArray, List.set_cons_zero, List.set_cons_succ]
  refine wpAnyH_take (i := 10) (oi := ?orck_at10o) (v := ?orck_at10v) ?orck_at10h (by kernel_rfl) (by kernel_rfl) (by kernel_rfl) ?orck_at10q ?orck_at10y hHeld ?orck_at10r
  case orck_at10h => (simp only [List.getElem?_toArray, List.getElem?_cons_succ, List.getElem?_cons_zero]; rfl)
  case orck_at10q => exact fun _ _ _ h => h
  case orck_at10y => (refine Or.inl ⟨by first | kernel_rfl | rfl, ?_⟩; intro w hSw; (try dsimp only at hSw); obtain ⟨⟨x0, x1, x2, x3, x4, x5, x6, x7, x8⟩, -, -⟩ := hSw; go_simp <;> (try with_reducible rfl))
  try simp only [Act.put, List.setIfInBounds_toArray, List.set_cons_zero, List.set_cons_succ]
  refine wpAnyH_take (i := 11) (oi := ?orck_at11o) (v := ?orck_at11v) ?orck_at11h (by kernel_rfl) (by kernel_rfl) (by kernel_rfl) ?orck_at11q ?orck_at11y hHeld ?orck_at11r
  case orck_at11h => (simp only [List.getElem?_toArray, List.getElem?_cons_succ, List.getElem?_cons_zero]; rfl)
  case orck_at11q => exact fun _ _ _ h => h
  case orck_at11y => (refine Or.inl ⟨by first | kernel_rfl | rfl, ?_⟩; intro w hSw; (try dsimp only at hSw); obtain ⟨⟨x0, x1, x2, x3, x4, x5, x6, x7, x8⟩, -, -⟩ := hSw; go_simp <;> (try with_reducible rfl))
  try simp only [Act.put, List.setIfInBounds_toArray, List.set_cons_zero, List.set_cons_succ]
  refine wpAnyH_take (i := 12) (oi := ?orck_at12o) (v := ?orck_at12v) ?orck_at12h (by kernel_rfl) (by kernel_rfl) (by kernel_rfl) ?orck_at12q ?orck_at12y hHeld ?orck_at12r
  case orck_at12h => (simp only [List.getElem?_toArray, List.getElem?_cons_succ, List.getElem?_cons_zero]; rfl)
  case orck_at12q => exact fun _ _ _ h => h
  case orck_at12y => (refine Or.inl ⟨by first | kernel_rfl | rfl, ?_⟩; intro w hSw; (try dsimp only at hSw); obtain ⟨⟨x0, x1, x2, x3, x4, x5, x6, x7, x8⟩, -, -⟩ := hSw; go_simp <;> (try with_reducible rfl))
  try simp only [Act.put, List.setIfInBounds_toArray, List.set_cons_zero, List.set_cons_succ]
  refine wpAnyH_take (i := 13) (oi := ?orck_at13o) (v := ?orck_at13v) ?orck_at13h (by kernel_rfl) (by kernel_rfl) (by kernel_rfl) ?orck_at13q ?orck_at13y hHeld ?orck_at13r
  case orck_at13h => (simp only [List.getElem?_toArray, List.getElem?_cons_succ, List.getElem?_cons_zero]; rfl)
  case orck_at13q => exact fun _ _ _ h => h
  case orck_at13y => (refine Or.inl ⟨by first | kernel_rfl | rfl, ?_⟩; intro w hSw; (try dsimp only at hSw); obtain ⟨⟨x0, x1, x2, x3, x4, x5, x6, x7, x8⟩, -, -⟩ := hSw; go_simp <;> (try with_reducible rfl))
  try simp only [Act.put, List.setIfInBounds_toArray, List.set_cons_zero, List.set_cons_succ]
  refine wpAnyH_take (i := 14) (oi := ?orck_at14o) (v := ?orck_at14v) ?orck_at14h (by kernel_rfl) (by kernel_rfl) (by kernel_rfl) ?orck_at14q ?orck_at14y hHeld ?orck_at14r
  case orck_at14h => (simp only [List.getElem?_toArray, List.getElem?_cons_succ, List.getElem?_cons_zero]; rfl)
  case orck_at14q => exact fun _ _ _ h => h
  case orck_at14y => (refine Or.inl ⟨by first | kernel_rfl | rfl, ?_⟩; intro w hSw; (try dsimp only at hSw); obtain ⟨⟨x0, x1, x2, x3, x4, x5, x6, x7, x8⟩, -, -⟩ := hSw; go_simp <;> (try with_reducible rfl))
  try simp only [Act.put, List.setIfInBounds_toArray, List.set_cons_zero, List.set_cons_succ]
  refine wpAnyH_take (i := 15) (oi := ?orck_at15o) (v := ?orck_at15v) ?orck_at15h (by kernel_rfl) (by kernel_rfl) (by kernel_rfl) ?orck_at15q ?orck_at15y hHeld ?orck_at15r
  case orck_at15h => (simp only [List.getElem?_toArray, List.getElem?_cons_succ, List.getElem?_cons_zero]; rfl)
  case orck_at15q => exact fun _ _ _ h => h
  case orck_at15y => (refine Or.inl ⟨by first | kernel_rfl | rfl, ?_⟩; intro w hSw; (try dsimp only at hSw); obtain ⟨⟨x0, x1, x2, x3, x4, x5, x6, x7, x8⟩, -, -⟩ := hSw; go_simp <;> (try with_reducible rfl))
  try simp only [Act.put, List.setIfInBounds_toArray, List.set_cons_zero, List.set_cons_succ]
  refine wpAnyH_take (i := 16) (oi := ?orck_at16o) (v := ?orck_at16v) ?orck_at16h (by kernel_rfl) (by kernel_rfl) (by kernel_rfl) ?orck_at16q ?orck_at16y hHeld ?orck_at16r
  case orck_at16h => (simp only [List.getElem?_toArray, List.getElem?_cons_succ, List.getElem?_cons_zero]; rfl)
  case orck_at16q => exact fun _ _ _ h => h
  case orck_at16y => (refine Or.inl ⟨by first | kernel_rfl | rfl, ?_⟩; intro w hSw; (try dsimp only at hSw); obtain ⟨⟨x0, x1, x2, x3, x4, x5, x6, x7, x8⟩, -, -⟩ := hSw; go_simp <;> (try with_reducible rfl))
  try simp only [Act.put, List.setIfInBounds_toArray, List.set_cons_zero, List.set_cons_succ]
  refine wpAnyH_take (i := 17) (oi := ?orck_at17o) (v := ?orck_at17v) ?orck_at17h (by kernel_rfl) (by kernel_rfl) (by kernel_rfl) ?orck_at17q ?orck_at17y hHeld ?orck_at17r
  case orck_at17h => (simp only [List.getElem?_toArray, List.getElem?_cons_succ, List.getElem?_cons_zero]; rfl)
  case orck_at17q => exact fun _ _ _ h => h
  case orck_at17y => (refine Or.inl ⟨by first | kernel_rfl | rfl, ?_⟩; intro w hSw; (try dsimp only at hSw); obtain ⟨⟨x0, x1, x2, x3, x4, x5, x6, x7, x8⟩, -, -⟩ := hSw; go_simp <;> (try with_reducible rfl))
  try simp only [Act.put, List.setIfInBounds_toArray, List.set_cons_zero, List.set_cons_succ]
  refine wpAnyH_take (i := 19) (oi := ?orck_at18o) (v := ?orck_at18v) ?orck_at18h (by kernel_rfl) (by kernel_rfl) (by kernel_rfl) ?orck_at18q ?orck_at18y hHeld ?orck_at18r
  case orck_at18h => (simp only [List.getElem?_toArray, List.getElem?_cons_succ, List.getElem?_cons_zero]; rfl)
  case orck_at18q => exact fun _ _ _ h => h
  case orck_at18y => (refine Or.inl ⟨by first | kernel_rfl | rfl, ?_⟩; intro w hSw; (try dsimp only at hSw); obtain ⟨⟨x0, x1, x2, x3, x4, x5, x6, x7, x8⟩, -, -⟩ := hSw; go_simp <;> (try with_reducible rfl))
  try simp only [Act.put, List.setIfInBounds_toArray, List.set_cons_zero, List.set_cons_succ]
  refine wpAnyH_take (i := 20) (oi := ?orck_at19o) (v := ?orck_at19v) ?orck_at19h (by kernel_rfl) (by kernel_rfl) (by kernel_rfl) ?orck_at19q ?orck_at19y hHeld ?orck_at19r
  case orck_at19h => (simp only [List.getElem?_toArray, List.getElem?_cons_succ, List.getElem?_cons_zero]; rfl)
  case orck_at19q => exact fun _ _ _ h => h
  case orck_at19y => (refine Or.inl ⟨by first | kernel_rfl | rfl, ?_⟩; intro w hSw; (try dsimp only at hSw); obtain ⟨⟨x0, x1, x2, x3, x4, x5, x6, x7, x8⟩, -, -⟩ := hSw; go_simp <;> (try with_reducible rfl))
  try simp only [Act.put, List.setIfInBounds_toArray, List.set_cons_zero, List.set_cons_succ]
  refine wpAnyH_take (i := 21) (oi := ?orck_at20o) (v := ?orck_at20v) ?orck_at20h (by kernel_rfl) (by kernel_rfl) (by kernel_rfl) ?orck_at20q ?orck_at20y hHeld ?orck_at20r
  case orck_at20h => (simp only [List.getElem?_toArray, List.getElem?_cons_succ, List.getElem?_cons_zero]; rfl)
  case orck_at20q => exact fun _ _ _ h => h
  case orck_at20y => (refine Or.inl ⟨by first | kernel_rfl | rfl, ?_⟩; intro w hSw; (try dsimp only at hSw); obtain ⟨⟨x0, x1, x2, x3, x4, x5, x6, x7, x8⟩, -, -⟩ := hSw; go_simp <;> (try with_reducible rfl))
  try simp only [Act.put, List.setIfInBounds_toArray, List.set_cons_zero, List.set_cons_succ]
  refine wpAnyH_take (i := 22) (oi := ?orck_at21o) (v := ?orck_at21v) ?orck_at21h (by kernel_rfl) (by kernel_rfl) (by kernel_rfl) ?orck_at21q ?orck_at21y hHeld ?orck_at21r
  case orck_at21h => (simp only [List.getElem?_toArray, List.getElem?_cons_succ, List.getElem?_cons_zero]; rfl)
  case orck_at21q => exact fun _ _ _ h => h
  case orck_at21y => (refine Or.inl ⟨by first | kernel_rfl | rfl, ?_⟩; intro w hSw; (try dsimp only at hSw); obtain ⟨⟨x0, x1, x2, x3, x4, x5, x6, x7, x8⟩, -, -⟩ := hSw; go_simp <;> (try with_reducible rfl))
  try simp only [Act.put, List.setIfInBounds_toArray, List.set_cons_zero, List.set_cons_succ]
  refine wpAnyH_ready (rs := [18]) (by kernel_rfl) (by simp) ?_
  refine (AllReadyH.cons rfl (fun K hK => ?_) AllReadyH.nil)
  go_simp
  ((with_reducible refine (ka _ hHeld.ns).mono ?_); rintro e w' ⟨rfl, hb'⟩)
  refine hK.out _ _ (hHeld.keep hb') (fun hHeld => ?_)
  clear hK K
  try simp only [Act.put, List.setIfInBounds_toArray, List.set_cons_zero, List.set_cons_succ]
  refine wpAnyH_take (i := 23) (oi := ?orck_at22o) (v := ?orck_at22v) ?orck_at22h (by kernel_rfl) (by kernel_rfl) (by kernel_rfl) ?orck_at22q ?orck_at22y hHeld ?orck_at22r
  case orck_at22h => (simp only [List.getElem?_toArray, List.getElem?_cons_succ, List.getElem?_cons_zero]; rfl)
  case orck_at22q => exact fun _ _ _ h => h
  case orck_at22y => (refine Or.inl ⟨by first | kernel_rfl | rfl, ?_⟩; intro w hSw; (try dsimp only at hSw); obtain ⟨⟨x0, x1, x2, x3, x4, x5, x6, x7, x8⟩, -, -⟩ := hSw; go_simp <;> (try with_reducible rfl))
  try simp only [Act.put, List.setIfInBounds_toArray, List.set_cons_zero, List.set_cons_succ]
  refine wpAnyH_take (i := 24) (oi := ?orck_at23o) (v := ?orck_at23v) ?orck_at23h (by kernel_rfl) (by kernel_rfl) (by kernel_rfl) ?orck_at23q ?orck_at23y hHeld ?orck_at23r
  case orck_at23h => (simp only [List.getElem?_toArray, List.getElem?_cons_succ, List.getElem?_cons_zero]; rfl)
  case orck_at23q => exact fun _ _ _ h => h
  case orck_at23y => (refine Or.inl ⟨by first | kernel_rfl | rfl, ?_⟩; intro w hSw; (try dsimp only at hSw); obtain ⟨⟨x0, x1, x2, x3, x4, x5, x6, x7, x8⟩, -, -⟩ := hSw; go_simp <;> (try with_reducible rfl))
  try simp only [Act.put, List.setIfInBounds_toArray, List.set_cons_zero, List.set_cons_succ]
  refine wpAnyH_done (by kernel_rfl) ?_ _
  have hbel := hHeld.bel
  go_wp2
  go_ret
  exact ⟨by rw [HE.out]; rfl, hbel⟩

set_option maxHeartbeats 4000000 in
theorem rck_yes (r : Rec) (dv : Value) (w : World) (h : Ns w dv r.d) (hf : r.fits) (h1 : decide (0 ≤ r.t ∧ r.t ≤ 1099511627776) = true) (h2 : sameL r.d (plainL r.d) = true) (h3 : r.st.ok = true) (h4 : atL r.d r.st.s = r.st.q - 1) : Calls Try.prog 41 #[recV r dv] w fun e w' => e = .returned (.int .i64 r.err) ∧ Below w.heap.size w w' := by
  have kt := fun w => rtime_is r.t true w h1
  have kr := fun w h => rright_is dv r.d w h
  rw [h2] at kr
  have kc := fun w => rcheckV r.st 0 (Lib.hid (by rw [St.err_eq, h3]; rfl)) w
  have ka := fun w h => rat_is dv r.d r.st.s w h
  obtain ⟨q1, q2, q3, q4, q5, q6⟩ := St.ok_iff.1 h3
  have hwq : IntKind.i64.wrap (r.st.q - 1) = r.st.q - 1 := by rw [IntKind.wrap_i64]; omega
  have HH := Lib.hid (Rec.head_yes h1 h2 h3 h4)
  have kn := fun w => rname_is r.s _ w hf.s (Lib.hid rfl)
  rw [h4] at ka
  have hq : (r.st.q - 1 == r.st.q - 1) = true := by simp
  clear h1 h2 h3 h4 hf
  have H0 := RHeld.new (r := r) h
  unfold recV
  clear h
  go_enter Try.func41, Try.ntmps41
  go_wp2_with (first
    | (go_at_call 58; (with_reducible refine (kt _).mono ?_); rintro e w1 ⟨rfl, rfl⟩)
    | (go_at_call 59; (with_reducible refine (kr _ H0.ns).mono ?_); rintro e w2 ⟨rfl, hb2⟩))
  have H1 := H0.keep hb2
  clear hb2 H0 kt kr
  refine wp_region_held_drew (S := (RHeld w w.heap.size r dv)) (by kernel_rfl) H1.drew (fun hHeld => ?_)
  refine wpAnyH_take (i := 0) (oi := ?orck_yes1o) (v := ?orck_yes1v) ?orck_yes1h (by kernel_rfl) (by kernel_rfl) (by kernel_rfl) ?orck_yes1q ?orck_yes1y hHeld ?orck_yes1r
  case orck_yes1h => (simp only [List.getElem?_toArray, List.getElem?_cons_zero]; rfl)
  case orck_yes1q => exact fun _ _ _ h => h
  case orck_yes1y => (refine Or.inl ⟨by first | kernel_rfl | rfl, ?_⟩; intro w hSw; (try dsimp only at hSw); obtain ⟨⟨x0, x1, x2, x3, x4, x5, x6, x7, x8⟩, -, -⟩ := hSw; go_simp <;> (try with_reducible rfl))
  try simp only [Act.put, List.setIfInBounds_toArray, List.set_cons_zero, List.set_cons_succ]
  refine wpAnyH_take (i := 1) (oi := ?orck_yes2o) (v := ?orck_yes2v) ?orck_yes2h (by kernel_rfl) (by kernel_rfl) (by kernel_rfl) ?orck_yes2q ?orck_yes2y hHeld ?orck_yes2r
  case orck_yes2h => (simp only [List.getElem?_toArray, List.getElem?_cons_succ, List.getElem?_cons_zero]; rfl)
  case orck_yes2q => exact fun _ _ _ h => h
  case orck_yes2y => (refine Or.inl ⟨by first | kernel_rfl | rfl, ?_⟩; intro w hSw; (try dsimp only at hSw); obtain ⟨⟨x0, x1, x2, x3, x4, x5, x6, x7, x8⟩, -, -⟩ := hSw; go_simp <;> (try with_reducible rfl))
  try simp only [Act.put, List.setIfInBounds_toArray, List.set_cons_zero, List.set_cons_succ]
  refine wpAnyH_take (i := 2) (oi := ?orck_yes3o) (v := ?orck_yes3v) ?orck_yes3h (by kernel_rfl) (by kernel_rfl) (by kernel_rfl) ?orck_yes3q ?orck_yes3y hHeld ?orck_yes3r
  case orck_yes3h => (simp only [List.getElem?_toArray, List.getElem?_cons_succ, List.getElem?_cons_zero]; rfl)
  case orck_yes3q => exact fun _ _ _ h => h
  case orck_yes3y => (refine Or.inl ⟨by first | kernel_rfl | rfl, ?_⟩; intro w hSw; (try dsimp only at hSw); obtain ⟨⟨x0, x1, x2, x3, x4, x5, x6, x7, x8⟩, -, -⟩ := hSw; go_simp <;> (try with_reducible rfl))
  try simp only [Act.put, List.setIfInBounds_toArray, List.set_cons_zero, List.set_cons_succ]
  refine wpAnyH_take (i := 3) (oi := ?orck_yes4o) (v := ?orck_yes4v) ?orck_yes4h (by kernel_rfl) (by kernel_rfl) (by kernel_rfl) ?orck_yes4q ?orck_yes4y hHeld ?orck_yes4r
  case orck_yes4h => (simp only [List.getElem?_toArray, List.getElem?_cons_succ, List.getElem?_cons_zero]; rfl)
  case orck_yes4q => exact fun _ _ _ h => h
  case orck_yes4y => (refine Or.inl ⟨by first | kernel_rfl | rfl, ?_⟩; intro w hSw; (try dsimp only at hSw); obtain ⟨⟨x0, x1, x2, x3, x4, x5, x6, x7, x8⟩, -, -⟩ := hSw; go_simp <;> (try with_reducible rfl))
  try simp only [Act.put, List.setIfInBounds_toArray, List.set_cons_zero, List.set_cons_succ]
  refine wpAnyH_take (i := 4) (oi := ?orck_yes5o) (v := ?orck_yes5v) ?orck_yes5h (by kernel_rfl) (by kernel_rfl) (by kernel_rfl) ?orck_yes5q ?orck_yes5y hHeld ?orck_yes5r
  case orck_yes5h => (simp only [List.getElem?_toArray, List.getElem?_cons_succ, List.getElem?_cons_zero]; rfl)
  case orck_yes5q => exact fun _ _ _ h => h
  case orck_yes5y => (refine Or.inl ⟨by first | kernel_rfl | rfl, ?_⟩; intro w hSw; (try dsimp only at hSw); obtain ⟨⟨x0, x1, x2, x3, x4, x5, x6, x7, x8⟩, -, -⟩ := hSw; go_simp <;> (try with_reducible rfl))
  try simp only [Act.put, List.setIfInBounds_toArray, List.set_cons_zero, List.set_cons_succ]
  refine wpAnyH_take (i := 5) (oi := ?orck_yes6o) (v := ?orck_yes6v) ?orck_yes6h (by kernel_rfl) (by kernel_rfl) (by kernel_rfl) ?orck_yes6q ?orck_yes6y hHeld ?orck_yes6r
  case orck_yes6h => (simp only [List.getElem?_toArray, List.getElem?_cons_succ, List.getElem?_cons_zero]; rfl)
  case orck_yes6q => exact fun _ _ _ h => h
  case orck_yes6y => (refine Or.inl ⟨by first | kernel_rfl | rfl, ?_⟩; intro w hSw; (try dsimp only at hSw); obtain ⟨⟨x0, x1, x2, x3, x4, x5, x6, x7, x8⟩, -, -⟩ := hSw; go_simp <;> (try with_reducible rfl))
  try simp only [Act.put, List.setIfInBounds_toArray, List.set_cons_zero, List.set_cons_succ]
  refine wpAnyH_take (i := 6) (oi := ?orck_yes7o) (v := ?orck_yes7v) ?orck_yes7h (by kernel_rfl) (by kernel_rfl) (by kernel_rfl) ?orck_yes7q ?orck_yes7y hHeld ?orck_yes7r
  case orck_yes7h => (simp only [List.getElem?_toArray, List.getElem?_cons_succ, List.getElem?_cons_zero]; rfl)
  case orck_yes7q => exact fun _ _ _ h => h
  case orck_yes7y => (refine Or.inl ⟨by first | kernel_rfl | rfl, ?_⟩; intro w hSw; (try dsimp only at hSw); obtain ⟨⟨x0, x1, x2, x3, x4, x5, x6, x7, x8⟩, -, -⟩ := hSw; go_simp <;> (try with_reducible rfl))
  try simp only [Act.put, List.setIfInBounds_toArray, List.set_cons_zero, List.set_cons_succ]
  refine wpAnyH_take (i := 7) (oi := ?orck_yes8o) (v := ?orck_yes8v) ?orck_yes8h (by kernel_rfl) (by kernel_rfl) (by kernel_rfl) ?orck_yes8q ?orck_yes8y hHeld ?orck_yes8r
  case orck_yes8h => (simp only [List.getElem?_toArray, List.getElem?_cons_succ, List.getElem?_cons_zero]; rfl)
  case orck_yes8q => exact fun _ _ _ h => h
  case orck_yes8y => (refine Or.inl ⟨by first | kernel_rfl | rfl, ?_⟩; intro w hSw; (try dsimp only at hSw); obtain ⟨⟨x0, x1, x2, x3, x4, x5, x6, x7, x8⟩, -, -⟩ := hSw; go_simp <;> (try with_reducible rfl))
  try simp only [Act.put, List.setIfInBounds_toArray, List.set_cons_zero, List.set_cons_succ]
  refine wpAnyH_take (i := 8) (oi := ?orck_yes9o) (v := ?orck_yes9v) ?orck_yes9h (by kernel_rfl) (by kernel_rfl) (by kernel_rfl) ?orck_yes9q ?orck_yes9y hHeld ?orck_yes9r
  case orck_yes9h => (simp only [List.getElem?_toArray, List.getElem?_cons_succ, List.getElem?_cons_zero]; rfl)
  case orck_yes9q => exact fun _ _ _ h => h
  case orck_yes9y => (refine Or.inl ⟨by first | kernel_rfl | rfl, ?_⟩; intro w hSw; (try dsimp only at hSw); obtain ⟨⟨x0, x1, x2, x3, x4, x5, x6, x7, x8⟩, -, -⟩ := hSw; go_simp <;> (try with_reducible rfl))
  try simp only [Act.put, List.setIfInBounds_toArray, List.set_cons_zero, List.set_cons_succ]
  refine wpAnyH_ready (rs := [9]) (by kernel_rfl) (by simp) ?_
  refine (AllReadyH.cons rfl (fun K hK => ?_) AllReadyH.nil)
  go_simp
  ((with_reducible refine (kc _).mono ?_); rintro e w' ⟨rfl, hb'⟩)
  refine hK.out _ _ (hHeld.keep hb') (fun hHeld => ?_)
  clear hK K
  try simp only [Act.put, List.setIfInBounds_toArray, List.set_cons_zero, List.set_cons_succ]
  refine wpAnyH_take (i := 10) (oi := ?orck_yes10o) (v := ?orck_yes10v) ?orck_yes10h (by kernel_rfl) (by kernel_rfl) (by kernel_rfl) ?orck_yes10q ?orck_yes10y hHeld ?orck_yes10r
  case orck_yes10h => (simp only [List.getElem?_toArray, List.getElem?_cons_succ, List.getElem?_cons_zero]; rfl)
  case orck_yes10q => exact fun _ _ _ h => h
  case orck_yes10y => (refine Or.inl ⟨by first | kernel_rfl | rfl, ?_⟩; intro w hSw; (try dsimp only at hSw); obtain ⟨⟨x0, x1, x2, x3, x4, x5, x6, x7, x8⟩, -, -⟩ := hSw; go_simp <;> (try with_reducible rfl))
  try simp only [Act.put, List.setIfInBounds_toArray, List.set_cons_zero, List.set_cons_succ]
  refine wpAnyH_take (i := 11) (oi := ?orck_yes11o) (v := ?orck_yes11v) ?orck_yes11h (by kernel_rfl) (by kernel_rfl) (by kernel_rfl) ?orck_yes11q ?orck_yes11y hHeld ?orck_yes11r
  case orck_yes11h => (simp only [List.getElem?_toArray, List.getElem?_cons_succ, List.getElem?_cons_zero]; rfl)
  case orck_yes11q => exact fun _ _ _ h => h
  case orck_yes11y => (refine Or.inl ⟨by first | kernel_rfl | rfl, ?_⟩; intro w hSw; (try dsimp only at hSw); obtain ⟨⟨x0, x1, x2, x3, x4, x5, x6, x7, x8⟩, -, -⟩ := hSw; go_simp <;> (try with_reducible rfl))
  try simp only [Act.put, List.setIfInBounds_toArray, List.set_cons_zero, List.set_cons_succ]
  refine wpAnyH_take (i := 12) (oi := ?orck_yes12o) (v := ?orck_yes12v) ?orck_yes12h (by kernel_rfl) (by kernel_rfl) (by kernel_rfl) ?orck_yes12q ?orck_yes12y hHeld ?orck_yes12r
  case orck_yes12h => (simp only [List.getElem?_toArray, List.getElem?_cons_succ, List.getElem?_cons_zero]; rfl)
  case orck_yes12q => exact fun _ _ _ h => h
  case orck_yes12y => (refine Or.inl ⟨by first | kernel_rfl | rfl, ?_⟩; intro w hSw; (try dsimp only at hSw); obtain ⟨⟨x0, x1, x2, x3, x4, x5, x6, x7, x8⟩, -, -⟩ := hSw; go_simp <;> (try with_reducible rfl))
  try simp only [Act.put, List.setIfInBounds_toArray, List.set_cons_zero, List.set_cons_succ]
  refine wpAnyH_take (i := 13) (oi := ?orck_yes13o) (v := ?orck_yes13v) ?orck_yes13h (by kernel_rfl) (by kernel_rfl) (by kernel_rfl) ?orck_yes13q ?orck_yes13y hHeld ?orck_yes13r
  case orck_yes13h => (simp only [List.getElem?_toArray, List.getElem?_cons_succ, List.getElem?_cons_zero]; rfl)
  case orck_yes13q => exact fun _ _ _ h => h
  case orck_yes13y => (refine Or.inl ⟨by first | kernel_rfl | rfl, ?_⟩; intro w hSw; (try dsimp only at hSw); obtain ⟨⟨x0, x1, x2, x3, x4, x5, x6, x7, x8⟩, -, -⟩ := hSw; go_simp <;> (try with_reducible rfl))
  try simp only [Act.put, List.setIfInBounds_toArray, List.set_cons_zero, List.set_cons_succ]
  refine wpAnyH_take (i := 14) (oi := ?orck_yes14o) (v := ?orck_yes14v) ?orck_yes14h (by kernel_rfl) (by kernel_rfl) (by kernel_rfl) ?orck_yes14q ?orck_yes14y hHeld ?orck_yes14r
  case orck_yes14h => (simp only [List.getElem?_toArray, List.getElem?_cons_succ, List.getElem?_cons_zero]; rfl)
  case orck_yes14q => exact fun _ _ _ h => h
  case orck_yes14y => (refine Or.inl ⟨by first | kernel_rfl | rfl, ?_⟩; intro w hSw; (try dsimp only at hSw); obtain ⟨⟨x0, x1, x2, x3, x4, x5, x6, x7, x8⟩, -, -⟩ := hSw; go_simp <;> (try with_reducible rfl))
  try simp only [Act.put, List.setIfInBounds_toArray, List.set_cons_zero, List.set_cons_succ]
  refine wpAnyH_take (i := 15) (oi := ?orck_yes15o) (v := ?orck_yes15v) ?orck_yes15h (by kernel_rfl) (by kernel_rfl) (by kernel_rfl) ?orck_yes15q ?orck_yes15y hHeld ?orck_yes15r
  case orck_yes15h => (simp only [List.getElem?_toArray, List.getElem?_cons_succ, List.getElem?_cons_zero]; rfl)
  case orck_yes15q => exact fun _ _ _ h => h
  case orck_yes15y => (refine Or.inl ⟨by first | kernel_rfl | rfl, ?_⟩; intro w hSw; (try dsimp only at hSw); obtain ⟨⟨x0, x1, x2, x3, x4, x5, x6, x7, x8⟩, -, -⟩ := hSw; go_simp <;> (try with_reducible rfl))
  try simp only [Act.put, List.setIfInBounds_toArray, List.set_cons_zero, List.set_cons_succ]
  refine wpAnyH_take (i := 16) (oi := ?orck_yes16o) (v := ?orck_yes16v) ?orck_yes16h (by kernel_rfl) (by kernel_rfl) (by kernel_rfl) ?orck_yes16q ?orck_yes16y hHeld ?orck_yes16r
  case orck_yes16h => (simp only [List.getElem?_toArray, List.getElem?_cons_succ, List.getElem?_cons_zero]; rfl)
  case orck_yes16q => exact fun _ _ _ h => h
  case orck_yes16y => (refine Or.inl ⟨by first | kernel_rfl | rfl, ?_⟩; intro w hSw; (try dsimp only at hSw); obtain ⟨⟨x0, x1, x2, x3, x4, x5, x6, x7, x8⟩, -, -⟩ := hSw; go_simp <;> (try with_reducible rfl))
  try simp only [Act.put, List.setIfInBounds_toArray, List.set_cons_zero, List.set_cons_succ]
  refine wpAnyH_take (i := 17) (oi := ?orck_yes17o) (v := ?orck_yes17v) ?orck_yes17h (by kernel_rfl) (by kernel_rfl) (by kernel_rfl) ?orck_yes17q ?orck_yes17y hHeld ?orck_yes17r
  case orck_yes17h => (simp only [List.getElem?_toArray, List.getElem?_cons_succ, List.getElem?_cons_zero]; rfl)
  case orck_yes17q => exact fun _ _ _ h => h
  case orck_yes17y => (refine Or.inl ⟨by first | kernel_rfl | rfl, ?_⟩; intro w hSw; (try dsimp only at hSw); obtain ⟨⟨x0, x1, x2, x3, x4, x5, x6, x7, x8⟩, -, -⟩ := hSw; go_simp <;> (try with_reducible rfl))
  try simp only [Act.put, List.setIfInBounds_toArray, List.set_cons_zero, List.set_cons_succ]
  refine wpAnyH_take (i := 19) (oi := ?orck_yes18o) (v := ?orck_yes18v) ?orck_yes18h (by kernel_rfl) (by kernel_rfl) (by kernel_rfl) ?orck_yes18q ?orck_yes18y hHeld ?orck_yes18r
  case orck_yes18h => (simp only [List.getElem?_toArray, List.getElem?_cons_succ, List.getElem?_cons_zero]; rfl)
  case orck_yes18q => exact fun _ _ _ h => h
  case orck_yes18y => (refine Or.inl ⟨by first | kernel_rfl | rfl, ?_⟩; intro w hSw; (try dsimp only at hSw); obtain ⟨⟨x0, x1, x2, x3, x4, x5, x6, x7, x8⟩, -, -⟩ := hSw; go_simp <;> (try with_reducible rfl))
  try simp only [Act.put, List.setIfInBounds_toArray, List.set_cons_zero, List.set_cons_succ]
  refine wpAnyH_take (i := 20) (oi := ?orck_yes19o) (v := ?orck_yes19v) ?orck_yes19h (by kernel_rfl) (by kernel_rfl) (by kernel_rfl) ?orck_yes19q ?orck_yes19y hHeld ?orck_yes19r
  case orck_yes19h => (simp only [List.getElem?_toArray, List.getElem?_cons_succ, List.getElem?_cons_zero]; rfl)
  case orck_yes19q => exact fun _ _ _ h => h
  case orck_yes19y => (refine Or.inl ⟨by first | kernel_rfl | rfl, ?_⟩; intro w hSw; (try dsimp only at hSw); obtain ⟨⟨x0, x1, x2, x3, x4, x5, x6, x7, x8⟩, -, -⟩ := hSw; go_simp <;> (try with_reducible rfl))
  try simp only [Act.put, List.setIfInBounds_toArray, List.set_cons_zero, List.set_cons_succ]
  refine wpAnyH_take (i := 21) (oi := ?orck_yes20o) (v := ?orck_yes20v) ?orck_yes20h (by kernel_rfl) (by kernel_rfl) (by kernel_rfl) ?orck_yes20q ?orck_yes20y hHeld ?orck_yes20r
  case orck_yes20h => (simp only [List.getElem?_toArray, List.getElem?_cons_succ, List.getElem?_cons_zero]; rfl)
  case orck_yes20q => exact fun _ _ _ h => h
  case orck_yes20y => (refine Or.inl ⟨by first | kernel_rfl | rfl, ?_⟩; intro w hSw; (try dsimp only at hSw); obtain ⟨⟨x0, x1, x2, x3, x4, x5, x6, x7, x8⟩, -, -⟩ := hSw; go_simp <;> (try with_reducible rfl))
  try simp only [Act.put, List.setIfInBounds_toArray, List.set_cons_zero, List.set_cons_succ]
  refine wpAnyH_take (i := 22) (oi := ?orck_yes21o) (v := ?orck_yes21v) ?orck_yes21h (by kernel_rfl) (by kernel_rfl) (by kernel_rfl) ?orck_yes21q ?orck_yes21y hHeld ?orck_yes21r
  case orck_yes21h => (simp only [List.getElem?_toArray, List.getElem?_cons_succ, List.getElem?_cons_zero]; rfl)
  case orck_yes21q => exact fun _ _ _ h => h
  case orck_yes21y => (refine Or.inl ⟨by first | kernel_rfl | rfl, ?_⟩; intro w hSw; (try dsimp only at hSw); obtain ⟨⟨x0, x1, x2, x3, x4, x5, x6, x7, x8⟩, -, -⟩ := hSw; go_simp <;> (try with_reducible rfl))
  try simp only [Act.put, List.setIfInBounds_toArray, List.set_cons_zero, List.set_cons_succ]
  refine wpAnyH_ready (rs := [18]) (by kernel_rfl) (by simp) ?_
  refine (AllReadyH.cons rfl (fun K hK => ?_) AllReadyH.nil)
  go_simp
  ((with_reducible refine (ka _ hHeld.ns).mono ?_); rintro e w' ⟨rfl, hb'⟩)
  refine hK.out _ _ (hHeld.keep hb') (fun hHeld => ?_)
  clear hK K
  try simp only [Act.put, List.setIfInBounds_toArray, List.set_cons_zero, List.set_cons_succ]
  refine wpAnyH_take (i := 23) (oi := ?orck_yes22o) (v := ?orck_yes22v) ?orck_yes22h (by kernel_rfl) (by kernel_rfl) (by kernel_rfl) ?orck_yes22q ?orck_yes22y hHeld ?orck_yes22r
  case orck_yes22h => (simp only [List.getElem?_toArray, List.getElem?_cons_succ, List.getElem?_cons_zero]; rfl)
  case orck_yes22q => exact fun _ _ _ h => h
  case orck_yes22y => (refine Or.inl ⟨by first | kernel_rfl | rfl, ?_⟩; intro w hSw; (try dsimp only at hSw); obtain ⟨⟨x0, x1, x2, x3, x4, x5, x6, x7, x8⟩, -, -⟩ := hSw; go_simp <;> (try with_reducible rfl))
  try simp only [Act.put, List.setIfInBounds_toArray, List.set_cons_zero, List.set_cons_succ]
  refine wpAnyH_take (i := 24) (oi := ?orck_yes23o) (v := ?orck_yes23v) ?orck_yes23h (by kernel_rfl) (by kernel_rfl) (by kernel_rfl) ?orck_yes23q ?orck_yes23y hHeld ?orck_yes23r
  case orck_yes23h => (simp only [List.getElem?_toArray, List.getElem?_cons_succ, List.getElem?_cons_zero]; rfl)
  case orck_yes23q => exact fun _ _ _ h => h
  case orck_yes23y => (refine Or.inl ⟨by first | kernel_rfl | rfl, ?_⟩; intro w hSw; (try dsimp only at hSw); obtain ⟨⟨x0, x1, x2, x3, x4, x5, x6, x7, x8⟩, -, -⟩ := hSw; go_simp <;> (try with_reducible rfl))
  try simp only [Act.put, List.setIfInBounds_toArray, List.set_cons_zero, List.set_cons_succ]
  refine wpAnyH_done (by kernel_rfl) ?_ _
  have hbel := hHeld.bel
  have hat := hHeld.at_
  obtain ⟨x0, x1, x2, x3, x4, x5, x6, x7, x8⟩ := hat
  by_cases hk1 : r.k = 1
  · have kk1 : (r.k == 1) = true := by simpa using hk1
    have kk2 : (r.k == 2) = false := by simp; omega
    have hok := Rec.ok_sample hk1
    rw [HH.out] at hok
    cases hnm : nameB r.s with
    | true =>
      rw [hnm] at hok kn
      by_cases ht : r.tier = 0
      · have tt : (r.tier == 0) = true := by simpa using ht
        have HE : Hid (r.err = 0) := by show _ = _; unfold Rec.err; rw [hok, decide_eq_true ht]; rfl
        clear hok hk1 hnm ht
        go_wp2_with (first | (go_at_call 61; (with_reducible refine (kn _).mono ?_); rintro e w4 ⟨rfl, rfl⟩))
        go_ret
        exact ⟨by rw [HE.out]; rfl, hbel⟩
      · have tt : (r.tier == 0) = false := by simpa using ht
        have HE : Hid (r.err = 1) := by show _ = _; unfold Rec.err; rw [hok, decide_eq_false ht]; rfl
        clear hok hk1 hnm ht
        go_wp2_with (first | (go_at_call 61; (with_reducible refine (kn _).mono ?_); rintro e w4 ⟨rfl, rfl⟩))
        go_ret
        exact ⟨by rw [HE.out]; rfl, hbel⟩
    | false =>
      rw [hnm] at hok kn
      have HE : Hid (r.err = 1) := by show _ = _; unfold Rec.err; rw [hok]; rfl
      clear hok hk1 hnm
      go_wp2_with (first | (go_at_call 61; (with_reducible refine (kn _).mono ?_); rintro e w4 ⟨rfl, rfl⟩))
      go_ret
      exact ⟨by rw [HE.out]; rfl, hbel⟩
  · have kk1 : (r.k == 1) = false := by simpa using hk1
    generalize nameB r.s = nn at *
    by_cases hk2 : r.k = 2
    · have kk2 : (r.k == 2) = true := by simpa using hk2
      have hok := Rec.ok_cut hk2
      rw [HH.out] at hok
      have five : (r.s ≠ ⟨#[]⟩) ∨ (r.s = ⟨#[]⟩ ∧ r.v ≠ 0) ∨ (r.s = ⟨#[]⟩ ∧ r.v = 0 ∧ r.tier < 0) ∨ (r.s = ⟨#[]⟩ ∧ r.v = 0 ∧ 0 ≤ r.tier ∧ 3 < r.tier) ∨ (r.s = ⟨#[]⟩ ∧ r.v = 0 ∧ 0 ≤ r.tier ∧ r.tier ≤ 3) := by
        by_cases c1 : r.s = ⟨#[]⟩
        · by_cases c2 : r.v = 0
          · have : r.tier < 0 ∨ (0 ≤ r.tier ∧ 3 < r.tier) ∨ (0 ≤ r.tier ∧ r.tier ≤ 3) := by omega
            rcases this with h | h | h
            · exact Or.inr (Or.inr (Or.inl ⟨c1, c2, h⟩))
            · exact Or.inr (Or.inr (Or.inr (Or.inl ⟨c1, c2, h⟩)))
            · exact Or.inr (Or.inr (Or.inr (Or.inr ⟨c1, c2, h⟩)))
          · exact Or.inr (Or.inl ⟨c1, c2⟩)
        · exact Or.inl c1
      rcases five with c1 | ⟨c1, c2⟩ | ⟨c1, c2, c3⟩ | ⟨c1, c2, c3, c4⟩ | ⟨c1, c2, c3, c4⟩
      · have hs : (r.s.toList == (⟨#[]⟩ : ByteArray).toList) = false := by
          rw [ByteArray.toList_eq, ByteArray.toList_eq]
          apply Bool.eq_false_iff.2
          intro e
          exact c1 (ByteArray.ext (Array.toList_inj.1 (eq_of_beq e)))
        have hs2 : (r.s.toList == []) = false := by
          have e0 : (⟨#[]⟩ : ByteArray).toList = [] := by rw [ByteArray.toList_eq]
          rw [e0] at hs; exact hs
        have HE : Hid (r.err = 1) := by show _ = _; unfold Rec.err; rw [hok, decide_eq_false c1]; rfl
        clear hok hk1 hk2
        go_wp2_with (first | (go_at_call 61; (with_reducible refine (kn _).mono ?_); rintro e w4 ⟨rfl, rfl⟩))
        go_ret
        exact ⟨by rw [HE.out]; rfl, hbel⟩
      · have hv : (r.v == 0) = false := by simpa using c2
        have HE : Hid (r.err = 1) := by show _ = _; unfold Rec.err; rw [hok, decide_eq_false c2, decide_eq_true c1]; rfl
        rw [c1] at x1 kn
        clear hok hk1 hk2 c2
        go_wp2_with (first | (go_at_call 61; (with_reducible refine (kn _).mono ?_); rintro e w4 ⟨rfl, rfl⟩))
        go_ret
        exact ⟨by rw [HE.out]; rfl, hbel⟩
      · have hv : (r.v == 0) = true := by simpa using c2
        have h3 : ¬ 0 ≤ r.tier := by omega
        have HE : Hid (r.err = 1) := by show _ = _; unfold Rec.err; rw [hok, decide_eq_true c2, decide_eq_true c1, decide_eq_false (show ¬ (0 ≤ r.tier ∧ r.tier ≤ 3) by omega)]; rfl
        rw [c1] at x1 kn
        clear hok hk1 hk2 c2 c3
        go_wp2_with (first | (go_at_call 61; (with_reducible refine (kn _).mono ?_); rintro e w4 ⟨rfl, rfl⟩))
        go_ret
        exact ⟨by rw [HE.out]; rfl, hbel⟩
      · have hv : (r.v == 0) = true := by simpa using c2
        have h3 : ¬ r.tier ≤ 3 := by omega
        have HE : Hid (r.err = 1) := by show _ = _; unfold Rec.err; rw [hok, decide_eq_true c2, decide_eq_true c1, decide_eq_false (show ¬ (0 ≤ r.tier ∧ r.tier ≤ 3) by omega)]; rfl
        rw [c1] at x1 kn
        clear hok hk1 hk2 c2 c4
        go_wp2_with (first | (go_at_call 61; (with_reducible refine (kn _).mono ?_); rintro e w4 ⟨rfl, rfl⟩))
        go_ret
        exact ⟨by rw [HE.out]; rfl, hbel⟩
      · have hv : (r.v == 0) = true := by simpa using c2
        have HE : Hid (r.err = 0) := by show _ = _; unfold Rec.err; rw [hok, decide_eq_true c2, decide_eq_true c1, decide_eq_true (show (0 ≤ r.tier ∧ r.tier ≤ 3) by omega)]; rfl
        rw [c1] at x1 kn
        clear hok hk1 hk2 c2
        go_wp2_with (first | (go_at_call 61; (with_reducible refine (kn _).mono ?_); rintro e w4 ⟨rfl, rfl⟩))
        go_ret
        exact ⟨by rw [HE.out]; rfl, hbel⟩
    · have kk2 : (r.k == 2) = false := by simpa using hk2
      have HE : Hid (r.err = 1) := by show _ = _; unfold Rec.err; rw [Rec.ok_none hk1 hk2]; rfl
      clear hk1 hk2
      go_wp2_with (first | (go_at_call 61; (with_reducible refine (kn _).mono ?_); rintro e w4 ⟨rfl, rfl⟩))
      go_ret
      exact ⟨by rw [HE.out]; rfl, hbel⟩

theorem rcheck6_is (r : Rec) (dv : Value) (w : World) (h : Ns w dv r.d) (hf : r.fits) : Calls Try.prog 41 #[recV r dv] w fun e w' => e = .returned (.int .i64 r.err) ∧ Below w.heap.size w w' := by
  cases h1 : decide (0 ≤ r.t ∧ r.t ≤ 1099511627776) with
  | false => exact rck_time r dv w h h1
  | true =>
    cases h2 : sameL r.d (plainL r.d) with
    | false => exact rck_deps r dv w h h1 h2
    | true =>
      cases h3 : r.st.ok with
      | false => exact rck_st r dv w h h1 h2 h3
      | true =>
        by_cases h4 : atL r.d r.st.s = r.st.q - 1
        · exact rck_yes r dv w h hf h1 h2 h3 h4
        · exact rck_at r dv w h h1 h2 h3 h4
end Go.Proofs.Ythifmfgnblecbaa

/- Contracts of the document's PointOf, and of the laws' own short and small. -/
set_option maxRecDepth 20000
namespace Go.Proofs.Ythifmfgnblecbaa
open Go.RowKit Go.Proofs.Ythifmfgnblecbaa.Vi Go.Proofs.Ythifmfgnblecbaa.Mk

def Rec.pt (r : Rec) : Pt := if r.k = 1 ∧ r.ok = true then ⟨r.s, r.t, r.v, r.st⟩ else ⟨⟨#[]⟩, 0, 0, ⟨0, 0, 0⟩⟩
def Rec.isPt (r : Rec) : Bool := decide (r.k = 1) && r.ok
/-- The zero point's block stays as it was behind a call. -/
theorem zero_later {w1 w2 : World} {b : Nat} (k : Below w1.heap.size w1 w2) (hb : b < w1.heap.size) (j : Nat) (v : Value) (h : w1.cell? ⟨b, j, none⟩ = some v) (hz : w1.frozen? ⟨b, j, none⟩ = false) : w2.cell? ⟨b, j, none⟩ = some v ∧ w2.frozen? ⟨b, j, none⟩ = false :=
  ⟨(k.cell (p := ⟨b, j, none⟩) hb).trans h, (k.frozen (p := ⟨b, j, none⟩) hb).trans hz⟩

theorem six_set {w a : World} (h : Below w.heap.size w a) (b : Nat) (hb : w.heap.size ≤ b) (v0 v1 v2 v3 v4 v5 : Value) : Below w.heap.size w ((((((a.setCell ⟨b, 0, none⟩ v0).setCell ⟨b, 1, none⟩ v1).setCell ⟨b, 2, none⟩ v2).setCell ⟨b, 3, none⟩ v3).setCell ⟨b, 4, none⟩ v4).setCell ⟨b, 5, none⟩ v5) :=
  (((((h.setCell (p := ⟨b, 0, none⟩) hb _).setCell (p := ⟨b, 1, none⟩) hb _).setCell (p := ⟨b, 2, none⟩) hb _).setCell (p := ⟨b, 3, none⟩) hb _).setCell (p := ⟨b, 4, none⟩) hb _).setCell (p := ⟨b, 5, none⟩) hb _

/-- The record that small makes of one. -/
def Rec.small (r : Rec) : Rec := { r with s := cutB r.s 60, d := r.d.take 12 }
/-- What small leaves. -/
def SmallDone (r : Rec) (w : World) (e : Ending) (w' : World) : Prop := ∃ dv', e = .returned (recV r.small dv') ∧ Ns w' dv' r.small.d ∧ Below w.heap.size w w'
end Go.Proofs.Ythifmfgnblecbaa

/- The contract of the laws' own few: at most 30 points, with short names. -/
set_option maxRecDepth 20000
namespace Go.Proofs.Ythifmfgnblecbaa
open Go.RowKit Go.Proofs.Ythifmfgnblecbaa.Vi Go.Proofs.Ythifmfgnblecbaa.Mk

def Pt.short (p : Pt) : Pt := { p with s := cutB p.s 60 }
def fewL (l : List Pt) : List Pt := (l.take 30).map Pt.short
theorem fewL_len (l : List Pt) : (fewL l).length ≤ 30 := by unfold fewL; rw [List.length_map, List.length_take]; omega
theorem cutB_len (s : ByteArray) (n : Nat) : (cutB s n).size ≤ n := by unfold cutB; split <;> (try simp [ByteArray.size_extract]) <;> omega
theorem fewL_short {l : List Pt} {p : Pt} (h : p ∈ fewL l) : p.s.size ≤ 60 := by
  obtain ⟨q, -, rfl⟩ := List.mem_map.1 (show p ∈ (l.take 30).map Pt.short from h)
  exact cutB_len _ _
theorem fewL_fits {l : List Pt} (hf : ∀ p ∈ l, p.fits) {p : Pt} (h : p ∈ fewL l) : p.fits := by
  obtain ⟨q, hq, rfl⟩ := List.mem_map.1 (show p ∈ (l.take 30).map Pt.short from h)
  have hq := hf q (List.mem_of_mem_take hq)
  exact ⟨by have := cutB_len q.s 60; show (cutB q.s 60).size ≤ _; omega, hq.t, hq.v⟩
theorem owns6_later {w w' : World} {B size n : Nat} {e : TypeId} {v : Value} {xs : List Value} (h : w.ownsRow B e size v n xs) (k : Below w.heap.size w w') : w'.ownsRow B e size v n xs := by
  obtain ⟨h1, h2⟩ := h
  refine ⟨h1, ?_⟩
  rcases h2 with h2 | ⟨g, cap, cur, e1, e2, e3, rest⟩
  · exact Or.inl h2
  · have hg : g < w.heap.size := (Array.getElem?_eq_some_iff.1 e3).1
    exact Or.inr ⟨g, cap, cur, e1, e2, (k.block g hg).trans e3, rest⟩
theorem few_step {l : List Pt} {k : Nat} (h : k < l.length) : (l.take (k + 1)).map Pt.short = (l.take k).map Pt.short ++ [Pt.short l[k]] := by
  rw [List.take_succ_eq_append_getElem h, List.map_append]; rfl
theorem few_end {l : List Pt} {k : Nat} (h1 : k ≤ 30) (h : 30 ≤ k ∨ l.length ≤ k) : (l.take k).map Pt.short = fewL l := by
  unfold fewL
  rcases h with h | h
  · obtain rfl : k = 30 := by omega
    rfl
  · rw [List.take_of_length_le h, List.take_of_length_le (by omega)]
end Go.Proofs.Ythifmfgnblecbaa

/- Points and records that came in by value, slices of points that came in. -/
set_option maxRecDepth 20000
namespace Go.Proofs.Ythifmfgnblecbaa
open Go.ChangeShapes Go.WideShapes Go.RowKit Go.Proofs.Ythifmfgnblecbaa.Vi Go.Proofs.Ythifmfgnblecbaa.Mk

theorem list9 {α : Type} {l : List α} (h : l.length = 9) : ∃ c0 c1 c2 c3 c4 c5 c6 c7 c8, l = [c0, c1, c2, c3, c4, c5, c6, c7, c8] := by
  match l, h with
  | [c0, c1, c2, c3, c4, c5, c6, c7, c8], _ => exact ⟨c0, c1, c2, c3, c4, c5, c6, c7, c8, rfl⟩
/-- The numbers of a record that came in are of their kinds. -/
structure Rec.wide (r : Rec) : Prop where
  k : -9223372036854775808 ≤ r.k ∧ r.k ≤ 9223372036854775807
  s : r.s.size ≤ 9223372036854775807
  t : -9223372036854775808 ≤ r.t ∧ r.t ≤ 9223372036854775807
  v : -9223372036854775808 ≤ r.v ∧ r.v ≤ 9223372036854775807
  tier : -9223372036854775808 ≤ r.tier ∧ r.tier ≤ 9223372036854775807
  ss : -9223372036854775808 ≤ r.st.s ∧ r.st.s ≤ 9223372036854775807
theorem Rec.wide.small {r : Rec} (h : r.wide) : r.small.fits := ⟨h.k, by have := cutB_len r.s 60; show (cutB r.s 60).size ≤ _; omega, h.t, h.v, h.tier, h.ss⟩
theorem cellsR : Try.prog.cellsOf 33 = 9 := by kernel_rfl
theorem trod_struct7 {H : Type} {enc : TypeId × Value → H} {P : Program} {w : World} {base : Nat} {spare : Nat → Bool} {held : Bool} {t : TypeId} {f0 f1 f2 f3 f4 f5 f6 : Field} {fuel : Nat} {cs : List Value} {x : DataW H × List MemPlace} (ht : P.underlying t = some (.struct #[f0, f1, f2, f3, f4, f5, f6])) (h : DataW.trod enc P w base spare held fuel t cs = some x) :
    ∃ y0 y1 y2 y3 y4 y5 y6 n, DataW.trod enc P w base spare held n f0.type ((cs.drop f0.offset).take (P.cellsOf f0.type)) = some y0 ∧ DataW.trod enc P w base spare held n f1.type ((cs.drop f1.offset).take (P.cellsOf f1.type)) = some y1 ∧
      DataW.trod enc P w base spare held n f2.type ((cs.drop f2.offset).take (P.cellsOf f2.type)) = some y2 ∧ DataW.trod enc P w base spare held n f3.type ((cs.drop f3.offset).take (P.cellsOf f3.type)) = some y3 ∧
      DataW.trod enc P w base spare held n f4.type ((cs.drop f4.offset).take (P.cellsOf f4.type)) = some y4 ∧ DataW.trod enc P w base spare held n f5.type ((cs.drop f5.offset).take (P.cellsOf f5.type)) = some y5 ∧
      DataW.trod enc P w base spare held n f6.type ((cs.drop f6.offset).take (P.cellsOf f6.type)) = some y6 := by
  obtain ⟨xs, n, _, rfl, hl, hlen, hf⟩ := DataW.trod_struct ht h
  match xs, hlen with
  | [y0, y1, y2, y3, y4, y5, y6], _ => exact ⟨y0, y1, y2, y3, y4, y5, y6, n, by simpa using hf 0 f0 rfl, by simpa using hf 1 f1 rfl, by simpa using hf 2 f2 rfl, by simpa using hf 3 f3 rfl, by simpa using hf 4 f4 rfl, by simpa using hf 5 f5 rfl, by simpa using hf 6 f6 rfl⟩
theorem stamp_of_cells2 {H : Type} {enc : TypeId × Value → H} {w : World} {base : Nat} {sp : Nat → Bool} {hd : Bool} {n : Nat} {cs : List Value} {x : DataW H × List MemPlace} (hcs : cs.length = 3)
    (h : DataW.trod enc Try.prog w base sp hd n 31 cs = some x) : ∃ a : St, cs = [.int .i64 a.c, .int .i64 a.s, .int .i64 a.q] ∧ -9223372036854775808 ≤ a.s ∧ a.s ≤ 9223372036854775807 := by
  match cs, hcs with
  | [c0, c1, c2], _ =>
    obtain ⟨y0, y1, y2, m, _, _, h0, h1, h2⟩ := Go.Deep.trod_struct3 Try.underlying31 h
    have hI : Try.prog.cellsOf 3 = 1 := by kernel_rfl
    simp only [hI, List.drop_zero, List.take_succ_cons, List.take_zero, List.drop_succ_cons] at h0 h1 h2
    obtain ⟨n0, e0, _, _⟩ := DataW.trod_int Try.underlying3 h0
    obtain ⟨n1, e1, _, w1⟩ := DataW.trod_int Try.underlying3 h1
    obtain ⟨n2, e2, _, _⟩ := DataW.trod_int Try.underlying3 h2
    simp at e0 e1 e2
    have := bounds_i64 w1
    exact ⟨⟨n0, n1, n2⟩, by rw [e0, e1, e2], by dsimp only; omega, by dsimp only; omega⟩
theorem open_record {H : Type} {enc : TypeId × Value → H} {w : World} {base b0 : Nat} {sp : Nat → Bool} {held : Bool} {v : Value} {d : DataW H} {p : List MemPlace}
    (hv : Value.okWide Try.prog w .any b0 33 v) (h : DataW.Trod enc Try.prog w base sp held 33 v d p) : ∃ (r : Rec) (dv : Value), v = recV r dv ∧ r.wide ∧ ArgNs w dv r.d := by
  obtain ⟨cs, rfl, hsz⟩ := okWide_struct Try.underlying33 hv
  rw [cellsR] at hsz
  obtain ⟨fuel, hf⟩ := h
  obtain ⟨l⟩ := cs
  obtain ⟨c0, c1, c2, c3, c4, c5, c6, c7, c8, rfl⟩ := list9 (show l.length = 9 from hsz)
  obtain ⟨y0, y1, y2, y3, y4, y5, y6, n, h0, h1, h2, h3, h4, h5, h6⟩ := trod_struct7 Try.underlying33 hf
  have hI : Try.prog.cellsOf 3 = 1 := by kernel_rfl
  have hJ : Try.prog.cellsOf 2 = 1 := by kernel_rfl
  have hT : Try.prog.cellsOf 9 = 1 := by kernel_rfl
  have hS : Try.prog.cellsOf 31 = 3 := by kernel_rfl
  have hN : Try.prog.cellsOf 22 = 1 := by kernel_rfl
  simp only [Value.cells, hI, hJ, hT, hS, hN, List.drop_zero, List.take_succ_cons, List.take_zero, List.drop_succ_cons] at h0 h1 h2 h3 h4 h5 h6
  obtain ⟨n0, e0, _, w0⟩ := DataW.trod_int Try.underlying3 h0
  obtain ⟨s, e1, _, hs⟩ := DataW.trod_string Try.underlying9 h1
  obtain ⟨n2, e2, _, w2⟩ := DataW.trod_int Try.underlying3 h2
  obtain ⟨n3, e3, _, w3⟩ := DataW.trod_int Try.underlying2 h3
  obtain ⟨n4, e4, _, w4⟩ := DataW.trod_int Try.underlying3 h4
  obtain ⟨a, e5, a1, a2⟩ := stamp_of_cells2 rfl h5
  have hsl : ∃ ad len cap, c8 = .slice ad len cap := by
    rcases Go.Deep.open_slice Try.underlying22 h6 with ⟨hcs, _⟩ | ⟨y, l, c, m, n, D, Pl, hcs, _⟩
    · simp at hcs; exact ⟨_, _, _, hcs⟩
    · simp at hcs; exact ⟨_, _, _, hcs⟩
  obtain ⟨ad, len, cap, rfl⟩ := hsl
  have hA := argInts_of Try.underlying22 Try.underlying3 (by kernel_rfl) h6
  obtain ⟨dl, hdl⟩ := argNs_of hA
  simp at e0 e1 e2 e3 e4 e5
  obtain ⟨e5, e6, e7⟩ := e5
  have b0' := bounds_i64 w0
  have b2' := bounds_i64 w2
  have b3' := bounds_i64 w3
  have b4' := bounds_i64 w4
  refine ⟨⟨n0, s, n2, n3, n4, a, dl⟩, .slice ad len cap, by rw [e0, e1, e2, e3, e4, e5, e6, e7]; rfl, ⟨?_, by unfold maxLen at hs; dsimp only; omega, ?_, ?_, ?_, ?_⟩, hdl⟩
  all_goals dsimp only; omega
end Go.Proofs.Ythifmfgnblecbaa

/- Slices of bytes of the call's own: appended to, made of a text, made into a text. -/
set_option maxRecDepth 20000
namespace Go.Proofs.Ythifmfgnblecbaa
open Go.RowKit Go.Proofs.Ythifmfgnblecbaa.Vi

theorem add_off (b off j : Nat) : (⟨b, off, none⟩ : Addr).add j = ⟨b, off + j, none⟩ := by unfold Addr.add; split <;> simp_all
/-- v is a slice of the bytes xs; its row lies above B, may be written as far as its capacity goes, and v may begin anywhere in it. -/
def OwnB (w : World) (B : Nat) (v : Value) (xs : List UInt8) : Prop := (v = .slice none 0 0 ∧ xs = []) ∨ ∃ g off cap, v = .slice (some ⟨g, off, none⟩) xs.length cap ∧ B ≤ g ∧ g < w.heap.size ∧ xs.length ≤ cap ∧ cap ≤ maxLen ∧
  (∀ j, j < cap → (w.cell? ⟨g, off + j, none⟩).isSome = true ∧ w.frozen? ⟨g, off + j, none⟩ = false) ∧ ∀ j (h : j < xs.length), w.cell? ⟨g, off + j, none⟩ = some (bcellv xs[j])
theorem OwnB.nil (w : World) (B : Nat) : OwnB w B (.slice none 0 0) [] := Or.inl ⟨rfl, rfl⟩
theorem OwnB.slice {w : World} {B : Nat} {v : Value} {xs : List UInt8} (h : OwnB w B v xs) : ∃ a c, v = .slice a xs.length c := by
  rcases h with ⟨rfl, rfl⟩ | ⟨g, off, cap, h, _⟩
  · exact ⟨_, _, rfl⟩
  · exact ⟨_, _, h⟩
/-- Nothing of its row, nor below a number above it, has turned. -/
theorem OwnB.under {w w' : World} {B C : Nat} {v : Value} {xs : List UInt8} (h : OwnB w B v xs) (k : Below C w w') (hC : w.heap.size ≤ C) : OwnB w' B v xs := by
  rcases h with h | ⟨g, off, cap, h1, h2, h3, h4, h5, h6, h7⟩
  · exact Or.inl h
  · have hg : g < C := by omega
    exact Or.inr ⟨g, off, cap, h1, h2, Nat.lt_of_lt_of_le h3 k.size, h4, h5, fun j hj => ⟨by rw [k.cell (p := ⟨g, off + j, none⟩) hg]; exact (h6 j hj).1, by rw [k.frozen (p := ⟨g, off + j, none⟩) hg]; exact (h6 j hj).2⟩,
      fun j hj => (k.cell (p := ⟨g, off + j, none⟩) hg).trans (h7 j hj)⟩
theorem setCells_size (g : Nat) : ∀ (vs : List Value) (o : Nat) (w : World), (w.setCells g o vs).heap.size = w.heap.size ∧ (w.setCells g o vs).tape = w.tape
  | [], _, _ => ⟨rfl, rfl⟩
  | v :: r, o, w => by
    obtain ⟨h1, h2⟩ := setCells_size g r (o + 1) (w.setCell ⟨g, o, none⟩ v)
    exact ⟨h1.trans (by simp), h2.trans (by rfl)⟩
/-- A text's bytes appended to it. -/
theorem OwnB.append {w : World} {B : Nat} {v : Value} {xs : List UInt8} (h : OwnB w B v xs) (hB : B ≤ w.heap.size) (s : ByteArray) (hs : xs.length + s.size ≤ 100000000) (ty : TypeId) :
    ∃ v' w', (Builtin.append_ #[84, 9] ty #[v, .string s]).run Try.prog w = .ok v' w' ∧ OwnB w' B v' (xs ++ s.data.toList) ∧ Below B w w' ∧ (∀ p : Addr, p.block < B → w'.cell? p = w.cell? p ∧ w'.frozen? p = w.frozen? p) := by
  obtain ⟨i0, hi, hz0, hz1, hz2⟩ := info_parts infoB
  have fin : ∀ {v' w'}, (Builtin.append_ #[84, 9] ty #[v, .string s]).run Try.prog w = .ok v' w' → OwnB w' B v' (xs ++ s.data.toList) → Below B w w' →
      ∃ v' w', (Builtin.append_ #[84, 9] ty #[v, .string s]).run Try.prog w = .ok v' w' ∧ OwnB w' B v' (xs ++ s.data.toList) ∧ Below B w w' ∧ (∀ p : Addr, p.block < B → w'.cell? p = w.cell? p ∧ w'.frozen? p = w.frozen? p) :=
    fun h1 h2 h3 => ⟨_, _, h1, h2, h3, fun p hp => ⟨h3.cell hp, h3.frozen hp⟩⟩
  have hsl : s.data.toList.length = s.size := by simp
  rcases h with ⟨rfl, rfl⟩ | ⟨g, off, cap, rfl, h2, h3, h4, h5, h6, h7⟩
  · have hown := World.ownsRow_nil w B 5 1
    obtain ⟨v', w', e1, e2, e3, e4⟩ := Lib.run_append_own_string (P := Try.prog) w B 84 9 ty 5 i0 Try.underlying84 Try.underlying9 hi hz0 hz1 hz2 _ 0 [] hown s (by unfold maxLen; omega) (by omega) hB
    refine fin e1 ?_ ((Below.refl _ _).grown e3 hB (fun k hk => by simp [Value.ownBlock] at hk))
    rw [List.nil_append] at *
    rcases e2.2 with ⟨hv, h0⟩ | ⟨g, cap, cur, hv, hg, hh, hn, hm, hcs, ht⟩
    · have : s.data.toList = [] := List.eq_nil_of_length_eq_zero (by rw [hsl]; omega)
      rw [this]; exact Or.inl ⟨hv, rfl⟩
    · have c1 := World.ownsRow.cellAt (show w'.ownsRow B 5 1 (.slice (some ⟨g, 0, none⟩) (0 + s.size) cap) (0 + s.size) (Lib.strCells s) by rw [← hv]; exact e2)
      refine Or.inr ⟨g, 0, cap, by rw [hsl, hv, Nat.zero_add], hg, (Array.getElem?_eq_some_iff.1 hh).1, by rw [hsl]; omega, hm, fun j hj => ?_, fun j hj => ?_⟩
      · rw [Nat.zero_add, cell_of_row w' g j cur 5 (0, 0) hh]
        refine ⟨by simp; omega, ?_⟩
        unfold World.frozen?
        simp only [hh]
        simp
      · rw [hsl] at hj
        rw [Nat.zero_add, c1 j (by omega)]
        simp [Lib.strCells, bcellv, hj]
  · by_cases hroom : xs.length + s.size ≤ cap
    · have hbl : (byteCells s).length = s.size := by simpa using byteCells_length s
      have hrun := run_append_room_src (P := Try.prog) w 84 9 ty 5 i0 Try.underlying84 hi g off xs.length cap (.string s) s.size (byteCells s) (by rw [hz1]; exact Src.ofString (w := w) Try.underlying9 s) hroom
        (fun j hj => by rw [hz1, Nat.mul_one, Nat.add_assoc]; exact (h6 _ (by omega)).1) (fun j hj => by rw [hz1, Nat.mul_one, Nat.add_assoc]; exact (h6 _ (by omega)).2)
      rw [hz1, Nat.mul_one] at hrun
      have hblk : ∀ k, k < w.heap.size → k ≠ g → (w.setCells g (off + xs.length) (byteCells s)).heap[k]? = w.heap[k]? := fun k hk hne => World.heap_setCells_other w g _ _ hk hne
      have hkb := World.keptBut_setCells g (may := fun _ => True) (byteCells s) (off + xs.length) w (fun _ _ => trivial)
      have hsz : (w.setCells g (off + xs.length) (byteCells s)).heap.size = w.heap.size := (setCells_size g _ _ _).1
      refine fin hrun (Or.inr ⟨g, off, cap, by rw [List.length_append, hsl], h2, by rw [hsz]; exact h3, by rw [List.length_append, hsl]; exact hroom, h5, fun j hj => ⟨World.isSome_setCells g _ _ _ _ (h6 j hj).1, (World.frozen?_setCells g _ _ _ _).trans (h6 j hj).2⟩, fun j hj => ?_⟩) ⟨World.os_setCells _ _ _ _, (setCells_size g _ _ _).2, World.output_setCells _ _ _ _, by rw [hsz]; exact Nat.le_refl _, fun k hk => hblk k (by omega) (by omega)⟩
      rw [List.length_append, hsl] at hj
      by_cases hjx : j < xs.length
      · rw [World.cell?_setCells_out g _ _ _ _ (fun _ _ => Or.inl (by show off + j < off + xs.length; omega)), List.getElem_append_left hjx]
        exact h7 j hjx
      · have := World.cell?_setCells_in g (byteCells s) (off + xs.length) w (fun q hq => by rw [Nat.add_assoc]; exact (h6 _ (by omega)).1) (j - xs.length) (by omega)
        rw [show off + xs.length + (j - xs.length) = off + j by omega] at this
        rw [this, List.getElem_append_right (by omega)]
        simp [byteCells, bcellv]
    · have hr := Lib.run_append_grow_string (P := Try.prog) w 84 9 ty 5 i0 (.int .u8 0) Try.underlying84 Try.underlying9 hi hz0 ⟨g, off, none⟩ xs.length cap (xs.map bcellv) (by rw [hz1, List.length_map, Nat.mul_one])
        (fun j u hu => by
          rw [List.getElem?_map] at hu
          obtain ⟨x, hx, rfl⟩ := Option.map_eq_some_iff.1 hu
          obtain ⟨hj, rfl⟩ := List.getElem?_eq_some_iff.1 hx
          rw [add_off]; exact h7 j hj) s (by omega) (by omega) (by rw [hz2]; exact growslice_fits (by omega) (by omega))
      obtain ⟨cp, hcp⟩ : ∃ cp, grownCap w (xs.length + s.size) cap 5 = cp := ⟨_, rfl⟩
      have hge := grownCap_ge w (xs.length + s.size) cap 5
      have hcm : grownCap w (xs.length + s.size) cap 5 ≤ maxLen := grownCap_le_maxLen w _ _ _ (by unfold maxLen; omega)
      rw [hcp] at hr hge hcm
      obtain ⟨cur, hcur⟩ : ∃ cur, (xs.map bcellv).toArray ++ (Lib.strCells s).toArray ++ Builtin.zeroCells (Value.int .u8 0).cells (cp - (xs.length + s.size)) = cur := ⟨_, rfl⟩
      rw [hcur] at hr
      have hcs : cur.size = cp := by
        have hz1 : (Value.int IntKind.u8 0).cells.size = 1 := rfl
        rw [← hcur]
        simp only [Array.size_append, List.size_toArray, size_zeroCells, hz1, Lib.strCells_length, List.length_map]
        omega
      have hl2 : (xs ++ s.data.toList).length = xs.length + s.size := by rw [List.length_append, hsl]
      refine fin hr (Or.inr ⟨w.heap.size, 0, cp, by rw [hl2], hB, by simp, by rw [hl2]; exact hge, hcm, fun j hj => ?_, fun j hj => ?_⟩) ((Below.refl B w).drew.alloc hB _)
      · rw [Nat.zero_add]
        rw [show w.heap.size = w.drew.heap.size from rfl, World.cell?_alloc_mark, World.frozen?_alloc_mark]
        refine ⟨by simp; omega, by simp⟩
      · rw [Nat.zero_add, show w.heap.size = w.drew.heap.size from rfl, World.cell?_alloc_mark, ← hcur]
        rw [hl2] at hj
        by_cases hjx : j < xs.length
        · rw [Array.getElem?_append_left (by simp; omega), Array.getElem?_append_left (by simp; omega), List.getElem_append_left hjx]
          simp [hjx]
        · rw [Array.getElem?_append_left (by simp [Lib.strCells_length]; omega), Array.getElem?_append_right (by simp; omega), List.getElem_append_right (by omega)]
          have hjs : j - xs.length < s.size := by omega
          simp [Lib.strCells, bcellv, hjs]

/-- The operation, for the walk. -/
theorem wpList_ownB {w : World} {ops : Array Oper} {rest : List Oper} {o : Oper} {a : Act} {Q : Exit → Act → World → Prop} (hgd : o.guard = none) (sl x : Operand)
    (ho : o.op = .call { callee := .builtin .append, args := #[sl, x], argTypes := #[84, 9] })
    (B : Nat) (v : Value) (xs : List UInt8) (hs : a.eval sl = v) (hown : OwnB w B v xs) (s : ByteArray) (hx : a.eval x = .string s) (hB : B ≤ w.heap.size) (hsz : xs.length + s.size ≤ 100000000)
    (h : ∀ v' w', OwnB w' B v' (xs ++ s.data.toList) → Below B w w' → wpList Try.prog ops Q rest (a.put o.dst v') w') : wpList Try.prog ops Q (o :: rest) a w := by
  refine wpList_plain hgd fun K hK => ?_
  obtain ⟨v', w', hr, h2, h3, -⟩ := hown.append hB s hsz o.type
  unfold Oper.wp execOp
  simp only [ho, resolve, invoke, builtin, Sem.run_bind, Sem.run_pure, Result.andThen_ok, List.map_toArray, List.map_cons, List.map_nil, hs, hx, hr]
  exact hK _ _ (h v' w' h2 h3)
/-- It made into a text. -/
theorem OwnB.whole {w : World} {B : Nat} {v : Value} {xs : List UInt8} (h : OwnB w B v xs) : (convert 84 9 v).run Try.prog w = .ok (.string (tx xs)) w := by
  rcases h with ⟨rfl, rfl⟩ | ⟨g, off, cap, rfl, h2, h3, h4, h5, h6, h7⟩
  · rfl
  · have := run_convert_bytes_back (P := Try.prog) w 84 9 5 ⟨g, off, none⟩ cap xs Try.underlying84 Try.underlying5 Try.underlying9 fun j hj => by
      rw [add_off, h7 j hj]; rfl
    simpa [tx] using this
/-- A text made into one. -/
theorem ownB_of_text (B : Nat) (s : ByteArray) (w : World) (hB : B ≤ w.heap.size) (hs : s.size ≤ 100000000) : ∃ v w', (convert 9 84 (.string s)).run Try.prog w = .ok v w' ∧ OwnB w' B v s.data.toList ∧ Below w.heap.size w w' := by
  have hsl : s.data.toList.length = s.size := by simp
  have hge := grownCap_ge w s.size 0 5
  have hcm : grownCap w s.size 0 5 ≤ maxLen := grownCap_le_maxLen w _ _ _ (by unfold maxLen; omega)
  refine ⟨_, _, run_bytes_of_string w 9 84 5 s Try.underlying9 Try.underlying84 Try.underlying5, Or.inr ⟨w.heap.size, 0, _, by rw [hsl], hB, by simp, by rw [hsl]; exact hge, hcm, fun j hj => ?_, fun j hj => ?_⟩, ((Below.refl _ _).drew).alloc (by simp) _⟩
  · have hrow : (bytesRow s (grownCap w s.size 0 5)).size = grownCap w s.size 0 5 := by
      have e : s.data.size = s.size := rfl
      unfold bytesRow; simp [Array.size_append]; omega
    rw [Nat.zero_add]
    rw [show w.heap.size = w.drew.heap.size from rfl, World.cell?_alloc_mark, World.frozen?_alloc_mark]
    refine ⟨?_, by simp; omega⟩
    rw [Array.getElem?_eq_getElem (by rw [hrow]; exact hj)]; rfl
  · have hj' : j < s.data.size := by simpa using hj
    rw [Nat.zero_add, show w.heap.size = w.drew.heap.size from rfl, World.cell?_alloc_mark, bytesRow_at _ _ _ hj']
    simp [bcellv]
end Go.Proofs.Ythifmfgnblecbaa

/- The contract of the document's SamePoints. -/
set_option maxRecDepth 20000
namespace Go.Proofs.Ythifmfgnblecbaa
open Go.RowKit Go.Proofs.Ythifmfgnblecbaa.Vi Go.Proofs.Ythifmfgnblecbaa.Mk

def Pt.same (a b : Pt) : Bool := decide (a.s = b.s) && (decide (a.t = b.t) && (decide (a.v = b.v) && decide (a.st = b.st)))
theorem Pt.same_iff {a b : Pt} : a.same b = true ↔ a = b := by
  obtain ⟨s1, t1, v1, x1⟩ := a
  obtain ⟨s2, t2, v2, x2⟩ := b
  simp [Pt.same]
instance : DecidableEq Pt := fun a b => decidable_of_iff (a.same b = true) Pt.same_iff
/-- Two lists are the same. -/
def sameP (a b : List Pt) : Bool := decide (a = b)

end Go.Proofs.Ythifmfgnblecbaa

/- A record's bytes, and the contract of the document's Bytes. -/
set_option maxRecDepth 20000
namespace Go.Proofs.Ythifmfgnblecbaa
open Go.RowKit Go.Proofs.Ythifmfgnblecbaa.Vi Go.Proofs.Ythifmfgnblecbaa.Mk

/-- What stands between a record's kind and its stamp; a record's bytes. -/
def Rec.mid (r : Rec) : List UInt8 := if r.k = 1 then (enc r.s.size ++ r.s.data.toList) ++ enc r.t.toNat ++ enc (zig r.v).toNat else enc r.tier.toNat ++ enc r.t.toNat
def Rec.bytes (r : Rec) : List UInt8 := enc r.k.toNat ++ r.mid ++ r.st.bytes ++ textL (plainL r.d)
theorem Rec.ok_head {r : Rec} (h : r.ok = true) : r.head = true := by
  unfold Rec.ok at h
  rw [Bool.and_eq_true] at h
  exact h.1
theorem Rec.head_parts {r : Rec} (h : r.head = true) : (0 ≤ r.t ∧ r.t ≤ 1099511627776) ∧ r.d = plainL r.d ∧ r.st.ok = true ∧ atL r.d r.st.s = r.st.q - 1 := by
  unfold Rec.head at h
  rw [Bool.and_eq_true, Bool.and_eq_true, Bool.and_eq_true] at h
  obtain ⟨⟨⟨h1, h2⟩, h3⟩, h4⟩ := h
  refine ⟨by simpa using h1, ?_, h3, by simpa using h4⟩
  unfold sameL at h2; simpa using h2
theorem Rec.ok_kind {r : Rec} (h : r.ok = true) : (r.k = 1 ∧ nameB r.s = true ∧ r.tier = 0) ∨ (r.k = 2 ∧ r.s = ⟨#[]⟩ ∧ r.v = 0 ∧ 0 ≤ r.tier ∧ r.tier ≤ 3) := by
  unfold Rec.ok at h
  rw [Bool.and_eq_true, Bool.or_eq_true] at h
  rcases h.2 with h | h
  · rw [Bool.and_eq_true, Bool.and_eq_true] at h
    exact Or.inl ⟨by simpa using h.1.1, h.1.2, by simpa using h.2⟩
  · rw [Bool.and_eq_true, Bool.and_eq_true, Bool.and_eq_true] at h
    exact Or.inr ⟨by simpa using h.1.1.1, by simpa using h.1.1.2, by simpa using h.1.2, by simpa using h.2⟩
theorem name_len {s : ByteArray} (h : nameB s = true) : 1 ≤ s.size ∧ s.size ≤ 40 := by
  have hl : s.data.toList.length = s.size := by simp
  by_cases e : s.data.toList.length < 1 ∨ 40 < s.data.toList.length
  · rw [nameB, nameL_short e] at h; cases h
  · omega
theorem textL_plain_len (l : List Int) : (textL (plainL l)).length ≤ 90 := textL_len _ (vec_fit (atL_fit l)) (vec_size (fun i : Nat => atL l (i : Int)))
theorem st_bytes_len (a : St) : a.bytes.length ≤ 30 := by
  unfold St.bytes
  split
  · rename_i h
    obtain ⟨q1, q2, q3, q4, q5, q6⟩ := St.ok_iff.1 h
    have h1 := enc_len10 a.c.toNat (by omega)
    have h2 := enc_len10 a.s.toNat (by omega)
    have h3 := enc_len10 a.q.toNat (by omega)
    rw [List.length_append, List.length_append]; omega
  · simp

end Go.Proofs.Ythifmfgnblecbaa

/- What bytes are read as a record; and that they are a record's bytes if and only if they are so read. -/
set_option maxRecDepth 20000
namespace Go.Proofs.Ythifmfgnblecbaa
open Go.RowKit Go.Proofs.Ythifmfgnblecbaa.Vi Go.Proofs.Ythifmfgnblecbaa.Mk

theorem tx_list6 (l : List UInt8) : (tx l).data.toList = l := by simp [tx]
theorem of_list6 {s : ByteArray} {l : List UInt8} (h : s.data.toList = l) : s = tx l := by subst h; exact (tx_list s).symm
/-- A stamp's bytes, a name's and a number's are read as they are. -/
theorem take_enc6 (a : St) (rest : List UInt8) (h : a.ok = true) : takeQ (tx (a.bytes ++ rest)) false = (a, tx rest, false) := by
  obtain ⟨b1, b2, b3, b4, b5, b6⟩ := St.ok_iff.1 h
  have e1 := smallQ_enc a.c 1099511627776 (enc a.s.toNat ++ (enc a.q.toNat ++ rest)) (by omega) (by omega) (by omega)
  have e2 := smallQ_enc a.s 7 (enc a.q.toNat ++ rest) (by omega) (by omega) (by omega)
  have e3 := smallQ_enc a.q 1099511627776 rest (by omega) (by omega) (by omega)
  have e0 : a.bytes ++ rest = enc a.c.toNat ++ (enc a.s.toNat ++ (enc a.q.toNat ++ rest)) := by rw [St.bytes_yes h]; simp [List.append_assoc]
  unfold takeQ
  simp only [e0, e1, e2, e3]
  rw [if_pos h]
theorem text_enc6 (t : ByteArray) (ht : t.size ≤ 1000) (q : List UInt8) : textQ (tx (enc t.size ++ (t.data.toList ++ q))) false = (t, tx q, false) := by
  have hl : t.data.toList.length = t.size := by simp
  unfold textQ
  rw [if_neg (by simp), numF_enc t.size _ (by omega)]
  simp only
  rw [if_pos (by rw [tx_size, List.length_append]; omega)]
  have e1 : (tx (t.data.toList ++ q)).extract 0 t.size = t := by
    apply list_inj
    rw [← hl]
    simp [tx, ByteArray.data_extract]
  have e2 : restB (tx (t.data.toList ++ q)) t.size = tx q := by
    apply list_inj
    rw [restB_list, tx_list6, tx_list6, ← hl]; simp
  rw [e1, e2]
theorem num_enc6 (n : Nat) (q : List UInt8) (h : n < 18446744073709551616) : numQ (tx (enc n ++ q)) false = ((n : Int), tx q, false) := by
  unfold numQ
  rw [if_neg (by simp), numF_enc n q h]
/-- What was read is what stood there. -/
theorem num_good6 {r r' : ByteArray} {br : Bool} {v : Int} (H : numQ r br = (v, r', false)) : br = false ∧ r.data.toList = enc v.toNat ++ r'.data.toList := by
  unfold numQ at H
  split at H
  · simp at H
  · rename_i hb
    split at H
    · simp at H
    · rename_i u r1 hf
      simp at H
      obtain ⟨rfl, rfl⟩ := H
      obtain ⟨k, hg, rfl⟩ := numF_some hf
      obtain ⟨g1, g2, g3, rest, g4⟩ := getL_some _ 0 u k (by omega) hg
      refine ⟨by simpa using hb, ?_⟩
      rw [restB_list, g4, g3]; simp
theorem text_good6 {r r' : ByteArray} {br : Bool} {t : ByteArray} (H : textQ r br = (t, r', false)) : br = false ∧ r.data.toList = enc t.size ++ (t.data.toList ++ r'.data.toList) := by
  unfold textQ at H
  split at H
  · simp at H
  · rename_i hb
    split at H
    · simp at H
    · rename_i u r1 hf
      split at H
      · rename_i hc
        simp at H
        obtain ⟨rfl, rfl⟩ := H
        obtain ⟨k, hg, rfl⟩ := numF_some hf
        obtain ⟨g1, g2, g3, rest, g4⟩ := getL_some _ 0 u k (by omega) hg
        refine ⟨by simpa using hb, ?_⟩
        have e1 : (restB r k).data.toList = rest := by rw [restB_list, g4, g3]; simp
        have e2 : ((restB r k).extract 0 u).data.toList = rest.take u := by
          rw [← e1]; simp [ByteArray.data_extract]
        have e3 : ((restB r k).extract 0 u).size = u := by simp [ByteArray.size_extract]; omega
        rw [e3, e2, restB_list, e1, List.take_append_drop, g4]
      · simp at H
theorem take_good6 {r r' : ByteArray} {br : Bool} {a : St} (H : takeQ r br = (a, r', false)) (h : br = true → r = ⟨#[]⟩) : br = false ∧ a.ok = true ∧ r.data.toList = a.bytes ++ r'.data.toList := by
  obtain ⟨v1, r1, b1, v2, r2, b2, v3, r3, b3, h1, h2, h3, i1, i2, i3, s1, s2, s3, ⟨o1, rfl, rfl, rfl, o2⟩ | ⟨_, _, _, o⟩⟩ := takeQ_parts H h
  · obtain ⟨j3, g3⟩ := smallQ_good h3
    subst j3
    obtain ⟨j2, g2⟩ := smallQ_good h2
    subst j2
    obtain ⟨j1, g1⟩ := smallQ_good h1
    refine ⟨j1, o1, ?_⟩
    rw [St.bytes_yes o1, g1, g2, g3]; simp [List.append_assoc]
  · cases o
theorem text_inv6 {r r' : ByteArray} {br br' : Bool} {t : ByteArray} (H : textQ r br = (t, r', br')) (h : br = true → r = ⟨#[]⟩) : (br' = true → r' = ⟨#[]⟩) ∧ r'.size ≤ r.size ∧ t.size ≤ r.size := by
  unfold textQ at H
  split at H
  · rename_i hb
    simp at H; obtain ⟨rfl, rfl, rfl⟩ := H
    exact ⟨fun _ => h hb, Nat.le_refl _, Nat.zero_le _⟩
  · split at H
    · simp at H; obtain ⟨rfl, rfl, rfl⟩ := H
      exact ⟨fun _ => rfl, Nat.zero_le _, Nat.zero_le _⟩
    · rename_i u r1 hf
      obtain ⟨k, hg, rfl⟩ := numF_some hf
      have hk := restB_size r k
      split at H
      · simp at H; obtain ⟨rfl, rfl, rfl⟩ := H
        refine ⟨fun e => (by cases e), by rw [restB_size]; omega, by simp [ByteArray.size_extract]; omega⟩
      · simp at H; obtain ⟨rfl, rfl, rfl⟩ := H
        exact ⟨fun _ => rfl, Nat.zero_le _, Nat.zero_le _⟩
theorem num_inv6 {r r' : ByteArray} {br br' : Bool} {v : Int} (H : numQ r br = (v, r', br')) (h : br = true → r = ⟨#[]⟩) : (br' = true → r' = ⟨#[]⟩) ∧ r'.size ≤ r.size ∧ 0 ≤ v ∧ v ≤ 18446744073709551615 := by
  obtain ⟨g1, g2, g3⟩ := numQ_bounds H
  refine ⟨?_, g3, g1, g2⟩
  unfold numQ at H
  split at H
  · rename_i hb
    simp at H; obtain ⟨rfl, rfl, rfl⟩ := H
    exact fun _ => h hb
  · split at H
    · simp at H; obtain ⟨rfl, rfl, rfl⟩ := H
      exact fun _ => rfl
    · simp at H; obtain ⟨rfl, rfl, rfl⟩ := H
      exact fun e => by cases e

/-- What stands between kind and stamp: name, time, value, tier; what is left. -/
def midQ (k : Int) (r : ByteArray) (br : Bool) : (ByteArray × Int × Int × Int) × ByteArray × Bool :=
  if k = 1 then
    let a := textQ r br
    let c := smallQ a.2.1 a.2.2 1099511627776
    let e := numQ c.2.1 c.2.2
    ((a.1, c.1, zag e.1, 0), e.2)
  else
    let a := smallQ r br 3
    let c := smallQ a.2.1 a.2.2 1099511627776
    ((⟨#[]⟩, c.1, 0, a.1), c.2)
/-- A record without its numbers. -/
def headQ (S : ByteArray) : Rec × ByteArray × Bool :=
  let a := smallQ S false 2
  let m := midQ a.1 a.2.1 a.2.2
  let t := takeQ m.2.1 m.2.2
  (⟨a.1, m.1.1, m.1.2.1, m.1.2.2.1, m.1.2.2.2, t.1, []⟩, t.2)
/-- The record whose bytes they are. -/
def recQ (S : ByteArray) : Option Rec :=
  let h := headQ S
  let n := (cntS h.2.1).toNat
  let q : Rec := { h.1 with d := outS h.2.1 n }
  if h.2.2 = false ∧ (stp h.2.1 n).2 = false ∧ outS h.2.1 n = plainL (outS h.2.1 n) ∧ (stp h.2.1 n).1.size = 0 ∧ q.ok = true then some q else none

theorem head_sample {S r1 s r2 r3 r4 r5 : ByteArray} {b1 b2 b3 b4 b5 : Bool} {k t v : Int} {a : St} (h1 : smallQ S false 2 = (k, r1, b1)) (hk : k = 1) (h2 : textQ r1 b1 = (s, r2, b2)) (h3 : smallQ r2 b2 1099511627776 = (t, r3, b3)) (h4 : numQ r3 b3 = (v, r4, b4)) (h5 : takeQ r4 b4 = (a, r5, b5)) : headQ S = (⟨k, s, t, zag v, 0, a, []⟩, r5, b5) := by
  have hm : midQ k r1 b1 = ((s, t, zag v, 0), r4, b4) := by
    unfold midQ
    rw [if_pos hk]
    simp only [h2, h3, h4]
  unfold headQ
  simp only [h1, hm, h5]
theorem head_cut {S r1 r2 r3 r5 : ByteArray} {b1 b2 b3 b5 : Bool} {k t x : Int} {a : St} (h1 : smallQ S false 2 = (k, r1, b1)) (hk : k ≠ 1) (h2 : smallQ r1 b1 3 = (x, r2, b2)) (h3 : smallQ r2 b2 1099511627776 = (t, r3, b3)) (h5 : takeQ r3 b3 = (a, r5, b5)) : headQ S = (⟨k, ⟨#[]⟩, t, 0, x, a, []⟩, r5, b5) := by
  have hm : midQ k r1 b1 = ((⟨#[]⟩, t, 0, x), r3, b3) := by
    unfold midQ
    rw [if_neg hk]
    simp only [h2, h3]
  unfold headQ
  simp only [h1, hm, h5]
theorem recQ_bad {S r : ByteArray} {q : Rec} (h : headQ S = (q, r, true)) : recQ S = none := by
  unfold recQ
  simp only [h]
  rw [if_neg]
  exact fun h => by cases h.1
theorem recQ_yes {S r : ByteArray} {q : Rec} {n : Nat} (h : headQ S = (q, r, false)) (hn : (n : Int) = cntS r) (h1 : (stp r n).2 = false) (h2 : outS r n = plainL (outS r n)) (h3 : (stp r n).1.size = 0) (h4 : Rec.ok { q with d := outS r n } = true) : recQ S = some { q with d := outS r n } := by
  have e : (cntS r).toNat = n := by omega
  unfold recQ
  simp only [h, e]
  exact if_pos ⟨trivial, h1, h2, h3, h4⟩
theorem recQ_no {S r : ByteArray} {q : Rec} {b : Bool} {n : Nat} (h : headQ S = (q, r, b)) (hn : (n : Int) = cntS r) (h1 : ¬ ((stp r n).2 = false ∧ outS r n = plainL (outS r n) ∧ (stp r n).1.size = 0 ∧ Rec.ok { q with d := outS r n } = true)) : recQ S = none := by
  have e : (cntS r).toNat = n := by omega
  unfold recQ
  simp only [h, e]
  exact if_neg fun g => h1 g.2

/-- A vector's text and what follows it. -/
theorem read_text6 (l : List Int) (hl : l = plainL l) (q : List UInt8) (s : ByteArray) (hs : tx (textL l ++ q) = s) : cntS s = (l.length : Int) ∧ ∀ k, k ≤ l.length → stp s k = (tx (encL (l.drop k) ++ q), false) ∧ outS s k = l.take k := by
  have h8 : l.length ≤ 8 := by rw [hl]; exact vec_size _
  have hfit : ∀ x ∈ l, 0 ≤ x ∧ x ≤ 1099511627776 := by rw [hl]; exact vec_fit (atL_fit l)
  have hz : smallQ s false 8 = ((l.length : Int), tx (encL l ++ q), false) := by
    rw [← hs]
    unfold textL
    have := smallQ_enc (l.length : Int) 8 (encL l ++ q) (by omega) (by omega) (by omega)
    rw [Int.toNat_natCast] at this
    rw [List.append_assoc]; exact this
  have hc : cntS s = (l.length : Int) := by unfold cntS; rw [hz]
  refine ⟨hc, fun k => ?_⟩
  clear hl
  induction k with
  | zero =>
    intro _
    refine ⟨?_, by simp [outS]⟩
    show (smallQ s false 8).2 = _
    rw [hz]; rfl
  | succ k ih =>
    intro hk
    obtain ⟨i1, i2⟩ := ih (by omega)
    have hkl : k < l.length := by omega
    have hb := hfit _ (List.getElem_mem hkl)
    have e0 : encL (l.drop k) ++ q = enc (l[k]).toNat ++ (encL (l.drop (k + 1)) ++ q) := by
      rw [List.drop_eq_getElem_cons hkl]; simp only [encL, List.flatMap_cons, List.append_assoc]
    have e1 : smallQ (stp s k).1 (stp s k).2 1099511627776 = (l[k], tx (encL (l.drop (k + 1)) ++ q), false) := by
      rw [i1, e0]
      exact smallQ_enc _ _ _ hb.1 hb.2 (by omega)
    have e2 := stp_step (s := s) (k := k) (by rw [hc]; omega)
    rw [e1] at e2
    simp only [Prod.mk.injEq] at e2
    refine ⟨Prod.ext e2.2.1.symm e2.2.2.symm, ?_⟩
    rw [outS_succ, i2, ← e2.1, List.take_succ_eq_append_getElem hkl]

/-- A record's head. -/
theorem head_enc (r : Rec) (h : r.ok = true) (hv : -9223372036854775808 ≤ r.v ∧ r.v ≤ 9223372036854775807) (q : List UInt8) : headQ (tx (enc r.k.toNat ++ r.mid ++ r.st.bytes ++ q)) = ({ r with d := [] }, tx q, false) := by
  obtain ⟨⟨t1, t2⟩, -, hst, -⟩ := Rec.head_parts (Rec.ok_head h)
  rcases Rec.ok_kind h with ⟨hk, hn, ht⟩ | ⟨hk, hs, hv0, ht1, ht2⟩
  · have hz := zig_bounds r.v hv.1 hv.2
    have hn40 := name_len hn
    have e0 : enc r.k.toNat ++ r.mid ++ r.st.bytes ++ q = enc r.k.toNat ++ (enc r.s.size ++ (r.s.data.toList ++ (enc r.t.toNat ++ (enc (zig r.v).toNat ++ (r.st.bytes ++ q))))) := by
      unfold Rec.mid; rw [if_pos hk]; simp only [List.append_assoc]
    rw [e0]
    have h4 := num_enc6 (zig r.v).toNat (r.st.bytes ++ q) (by omega)
    have e4 : (((zig r.v).toNat : Nat) : Int) = zig r.v := Int.toNat_of_nonneg hz.1
    rw [e4] at h4
    have := head_sample (smallQ_enc r.k 2 _ (by omega) (by omega) (by omega)) hk (text_enc6 r.s (by omega) _) (smallQ_enc r.t _ _ t1 t2 (by omega)) h4 (take_enc6 r.st q hst)
    rw [this, zag_zig, ← ht]
  · have e0 : enc r.k.toNat ++ r.mid ++ r.st.bytes ++ q = enc r.k.toNat ++ (enc r.tier.toNat ++ (enc r.t.toNat ++ (r.st.bytes ++ q))) := by
      unfold Rec.mid; rw [if_neg (by omega)]; simp only [List.append_assoc]
    rw [e0]
    have := head_cut (smallQ_enc r.k 2 _ (by omega) (by omega) (by omega)) (by omega) (smallQ_enc r.tier 3 _ ht1 ht2 (by omega)) (smallQ_enc r.t _ _ t1 t2 (by omega)) (take_enc6 r.st q hst)
    rw [this, ← hv0, ← hs]
/-- A record's bytes are read as it, and with anything behind as none. -/
theorem recQ_enc (r : Rec) (h : r.ok = true) (hv : -9223372036854775808 ≤ r.v ∧ r.v ≤ 9223372036854775807) (q : List UInt8) : recQ (tx (r.bytes ++ q)) = if q = [] then some r else none := by
  obtain ⟨-, hpl, -, -⟩ := Rec.head_parts (Rec.ok_head h)
  have e0 : r.bytes ++ q = enc r.k.toNat ++ r.mid ++ r.st.bytes ++ (textL r.d ++ q) := by
    unfold Rec.bytes; rw [← hpl]; simp only [List.append_assoc]
  have hh := head_enc r h hv (textL r.d ++ q)
  rw [← e0] at hh
  obtain ⟨g1, g2⟩ := read_text6 r.d hpl q _ rfl
  obtain ⟨g3, g4⟩ := g2 _ (Nat.le_refl _)
  rw [List.take_length] at g4
  rw [List.drop_length] at g3
  have e1 : encL [] ++ q = q := rfl
  rw [e1] at g3
  have er : ({ ({ r with d := [] } : Rec) with d := r.d } : Rec) = r := rfl
  by_cases hq : q = []
  · rw [if_pos hq]
    have := recQ_yes hh g1.symm (by rw [g3]) (by rw [g4]; exact hpl) (by rw [g3, hq]; rfl) (by rw [g4]; exact h)
    rw [g4] at this
    exact this
  · rw [if_neg hq]
    refine recQ_no hh g1.symm fun g => hq ?_
    have := g.2.2.1
    rw [g3, tx_size] at this
    exact List.eq_nil_of_length_eq_zero this
theorem head_good {S r : ByteArray} {q : Rec} (h : headQ S = (q, r, false)) : S.data.toList = enc q.k.toNat ++ q.mid ++ q.st.bytes ++ r.data.toList ∧ (-9223372036854775808 ≤ q.v ∧ q.v ≤ 9223372036854775807) := by
  obtain ⟨⟨k, r1, b1⟩, h1⟩ : ∃ x, smallQ S false 2 = x := ⟨_, rfl⟩
  have i1 := (smallQ_inv h1 (fun e => by cases e)).1
  by_cases hk : k = 1
  · obtain ⟨⟨s, r2, b2⟩, h2⟩ : ∃ x, textQ r1 b1 = x := ⟨_, rfl⟩
    obtain ⟨⟨t, r3, b3⟩, h3⟩ : ∃ x, smallQ r2 b2 1099511627776 = x := ⟨_, rfl⟩
    obtain ⟨⟨v, r4, b4⟩, h4⟩ : ∃ x, numQ r3 b3 = x := ⟨_, rfl⟩
    obtain ⟨⟨a, r5, b5⟩, h5⟩ : ∃ x, takeQ r4 b4 = x := ⟨_, rfl⟩
    have i2 := (text_inv6 h2 fun e => (i1 e).1).1
    have i3 := (smallQ_inv h3 i2).1
    obtain ⟨i4, -, v0, v1⟩ := num_inv6 h4 fun e => (i3 e).1
    rw [head_sample h1 hk h2 h3 h4 h5] at h
    simp only [Prod.mk.injEq] at h
    obtain ⟨rfl, rfl, rfl⟩ := h
    obtain ⟨j4, -, g5⟩ := take_good6 h5 i4
    subst j4
    obtain ⟨j3, g4⟩ := num_good6 h4
    subst j3
    obtain ⟨j2, g3⟩ := smallQ_good h3
    subst j2
    obtain ⟨j1, g2⟩ := text_good6 h2
    subst j1
    obtain ⟨-, g1⟩ := smallQ_good h1
    refine ⟨?_, zag_bounds v v0 v1⟩
    unfold Rec.mid
    simp only
    rw [if_pos hk, zig_zag v v0, g1, g2, g3, g4, g5]
    simp only [List.append_assoc]
  · obtain ⟨⟨x, r2, b2⟩, h2⟩ : ∃ x, smallQ r1 b1 3 = x := ⟨_, rfl⟩
    obtain ⟨⟨t, r3, b3⟩, h3⟩ : ∃ x, smallQ r2 b2 1099511627776 = x := ⟨_, rfl⟩
    obtain ⟨⟨a, r5, b5⟩, h5⟩ : ∃ x, takeQ r3 b3 = x := ⟨_, rfl⟩
    have i2 := (smallQ_inv h2 fun e => (i1 e).1).1
    have i3 := (smallQ_inv h3 fun e => (i2 e).1).1
    rw [head_cut h1 hk h2 h3 h5] at h
    simp only [Prod.mk.injEq] at h
    obtain ⟨rfl, rfl, rfl⟩ := h
    obtain ⟨j3, -, g5⟩ := take_good6 h5 fun e => (i3 e).1
    subst j3
    obtain ⟨j2, g3⟩ := smallQ_good h3
    subst j2
    obtain ⟨j1, g2⟩ := smallQ_good h2
    subst j1
    obtain ⟨-, g1⟩ := smallQ_good h1
    refine ⟨?_, by simp only; omega⟩
    unfold Rec.mid
    simp only
    rw [if_neg hk, g1, g2, g3, g5]
    simp only [List.append_assoc]
/-- What is read as a record are its bytes. -/
theorem recQ_some {S : ByteArray} {r : Rec} (h : recQ S = some r) : r.ok = true ∧ tx r.bytes = S ∧ (-9223372036854775808 ≤ r.v ∧ r.v ≤ 9223372036854775807) := by
  obtain ⟨⟨q, r5, b⟩, hh⟩ : ∃ x, headQ S = x := ⟨_, rfl⟩
  cases b with
  | true => rw [recQ_bad hh] at h; cases h
  | false =>
    have hc := cntS_bounds r5
    obtain ⟨n, hn⟩ : ∃ n : Nat, (n : Int) = cntS r5 := ⟨(cntS r5).toNat, by omega⟩
    by_cases hall : (stp r5 n).2 = false ∧ outS r5 n = plainL (outS r5 n) ∧ (stp r5 n).1.size = 0 ∧ Rec.ok { q with d := outS r5 n } = true
    · obtain ⟨h1, h2, h3, h4⟩ := hall
      rw [recQ_yes hh hn h1 h2 h3 h4] at h
      obtain rfl := Option.some.inj h
      obtain ⟨g1, g2⟩ := head_good hh
      refine ⟨h4, ?_, g2⟩
      have e := outS_text n (by omega) h1
      have e0 : (stp r5 n).1.data.toList = [] := by
        apply List.eq_nil_of_length_eq_zero
        simpa using h3
      rw [e0, List.append_nil] at e
      have e2 : (outS r5 n).length = (cntS r5).toNat := by unfold outS; simp; omega
      apply list_inj
      rw [tx_list6, g1, e]
      unfold Rec.bytes textL
      simp only
      rw [← h2, e2]
      rfl
    · rw [recQ_no hh hn hall] at h; cases h
/-- No two records have one text of bytes. -/
theorem bytes_inj6 {a b : Rec} (ha : a.ok = true) (hb : b.ok = true) (va : -9223372036854775808 ≤ a.v ∧ a.v ≤ 9223372036854775807) (vb : -9223372036854775808 ≤ b.v ∧ b.v ≤ 9223372036854775807) (h : tx a.bytes = tx b.bytes) : a = b := by
  have h1 := recQ_enc a ha va []
  have h2 := recQ_enc b hb vb []
  rw [List.append_nil, if_pos rfl] at h1 h2
  rw [h, h2] at h1
  exact (Option.some.inj h1).symm
/-- Cut short they are none. -/
theorem recQ_short {a : Rec} (ha : a.ok = true) (va : -9223372036854775808 ≤ a.v ∧ a.v ≤ 9223372036854775807) {p q : List UInt8} (h : a.bytes = p ++ q) (hq : q ≠ []) : recQ (tx p) = none := by
  cases hr : recQ (tx p) with
  | none => rfl
  | some r =>
    obtain ⟨h1, h2, h3⟩ := recQ_some hr
    have e := tx_inj h2
    have h4 := recQ_enc r h1 h3 q
    rw [if_neg hq, e, ← h] at h4
    have h5 := recQ_enc a ha va []
    rw [List.append_nil, if_pos rfl, h4] at h5
    cases h5
theorem Rec.bytes_ne (r : Rec) : r.bytes ≠ [] := by
  intro h
  have : (enc r.k.toNat).length = 0 := by
    have := congrArg List.length h
    unfold Rec.bytes at this
    simp only [List.length_append, List.length_nil] at this
    omega
  have := enc_len_pos r.k.toNat
  omega
end Go.Proofs.Ythifmfgnblecbaa

/- The bytes of points, and what bytes are read as points. -/
set_option maxRecDepth 20000
namespace Go.Proofs.Ythifmfgnblecbaa
open Go.RowKit Go.Proofs.Ythifmfgnblecbaa.Vi Go.Proofs.Ythifmfgnblecbaa.Mk

def Pt.bytes (p : Pt) : List UInt8 := (enc p.s.size ++ p.s.data.toList) ++ enc p.t.toNat ++ enc (zig p.v).toNat ++ p.st.bytes
def bytesP (l : List Pt) : List UInt8 := l.flatMap Pt.bytes
def ptsB (l : List Pt) : List UInt8 := enc l.length ++ bytesP l
/-- The number can be a value. -/
def Pt.vfit (p : Pt) : Prop := -9223372036854775808 ≤ p.v ∧ p.v ≤ 9223372036854775807
theorem Pt.ok_parts {p : Pt} (h : p.ok = true) : nameB p.s = true ∧ (0 ≤ p.t ∧ p.t ≤ 1099511627776) ∧ p.st.ok = true := by
  unfold Pt.ok at h
  rw [Bool.and_eq_true, Bool.and_eq_true] at h
  exact ⟨h.1.1, by simpa using h.1.2, h.2⟩
theorem bytesP_snoc (l : List Pt) (p : Pt) : bytesP (l ++ [p]) = bytesP l ++ p.bytes := by unfold bytesP; rw [List.flatMap_append]; simp
theorem bytesP_drop (l : List Pt) (k : Nat) (h : k < l.length) : bytesP (l.drop k) = (l[k]).bytes ++ bytesP (l.drop (k + 1)) := by
  rw [List.drop_eq_getElem_cons h]; simp only [bytesP, List.flatMap_cons]
theorem pt_bytes_len {p : Pt} (h : p.ok = true) (hv : p.vfit) : p.bytes.length ≤ 110 := by
  obtain ⟨h1, h2, h3⟩ := Pt.ok_parts h
  have hn := name_len h1
  have hz := zig_bounds p.v hv.1 hv.2
  have a1 := enc_len10 p.s.size (by omega)
  have a2 := enc_len10 p.t.toNat (by omega)
  have a3 := enc_len10 (zig p.v).toNat (by omega)
  have a4 := st_bytes_len p.st
  have a5 : p.s.data.toList.length = p.s.size := by simp
  unfold Pt.bytes
  rw [List.length_append, List.length_append, List.length_append, List.length_append]; omega
theorem bytesP_len (l : List Pt) (h : ∀ p ∈ l, p.ok = true ∧ p.vfit) : (bytesP l).length ≤ 110 * l.length := by
  induction l with
  | nil => simp [bytesP]
  | cons a t ih =>
    have h1 := pt_bytes_len (h a (List.mem_cons_self ..)).1 (h a (List.mem_cons_self ..)).2
    have h2 := ih fun p hp => h p (List.mem_cons_of_mem _ hp)
    have e : bytesP (a :: t) = a.bytes ++ bytesP t := by simp [bytesP]
    rw [e, List.length_append, List.length_cons]; omega

/-- One point as it is read; one that may not be spoils the reader. -/
def ptQ (r : ByteArray) (b : Bool) : Pt × ByteArray × Bool :=
  let a := textQ r b
  let c := smallQ a.2.1 a.2.2 1099511627776
  let e := numQ c.2.1 c.2.2
  let f := takeQ e.2.1 e.2.2
  let p : Pt := ⟨a.1, c.1, zag e.1, f.1⟩
  if p.ok = true then (p, f.2.1, f.2.2) else (p, ⟨#[]⟩, true)
theorem ptQ_is {r r1 r2 r3 r4 s : ByteArray} {b b1 b2 b3 b4 : Bool} {t v : Int} {a : St} (h1 : textQ r b = (s, r1, b1)) (h2 : smallQ r1 b1 1099511627776 = (t, r2, b2)) (h3 : numQ r2 b2 = (v, r3, b3)) (h4 : takeQ r3 b3 = (a, r4, b4)) :
    ptQ r b = if Pt.ok ⟨s, t, zag v, a⟩ = true then (⟨s, t, zag v, a⟩, r4, b4) else (⟨s, t, zag v, a⟩, ⟨#[]⟩, true) := by
  unfold ptQ
  simp only [h1, h2, h3, h4]
theorem ptQ_enc (p : Pt) (h : p.ok = true) (hv : p.vfit) (q : List UInt8) : ptQ (tx (p.bytes ++ q)) false = (p, tx q, false) := by
  obtain ⟨hn, ht, hst⟩ := Pt.ok_parts h
  have hn40 := name_len hn
  have hz := zig_bounds p.v hv.1 hv.2
  have e0 : p.bytes ++ q = enc p.s.size ++ (p.s.data.toList ++ (enc p.t.toNat ++ (enc (zig p.v).toNat ++ (p.st.bytes ++ q)))) := by
    unfold Pt.bytes; simp only [List.append_assoc]
  rw [e0]
  have h3 := num_enc6 (zig p.v).toNat (p.st.bytes ++ q) (by omega)
  have e4 : (((zig p.v).toNat : Nat) : Int) = zig p.v := Int.toNat_of_nonneg hz.1
  rw [e4] at h3
  rw [ptQ_is (text_enc6 p.s (by omega) _) (smallQ_enc p.t _ _ ht.1 ht.2 (by omega)) h3 (take_enc6 p.st q hst), zag_zig]
  exact if_pos h
theorem ptQ_inv {r r' : ByteArray} {b b' : Bool} {p : Pt} (H : ptQ r b = (p, r', b')) (h : b = true → r = ⟨#[]⟩) : (b' = true → r' = ⟨#[]⟩) ∧ r'.size ≤ r.size ∧ p.vfit ∧ p.s.size ≤ r.size ∧ (0 ≤ p.t ∧ p.t ≤ 1099511627776) := by
  obtain ⟨⟨s, r1, b1⟩, h1⟩ : ∃ x, textQ r b = x := ⟨_, rfl⟩
  obtain ⟨⟨t, r2, b2⟩, h2⟩ : ∃ x, smallQ r1 b1 1099511627776 = x := ⟨_, rfl⟩
  obtain ⟨⟨v, r3, b3⟩, h3⟩ : ∃ x, numQ r2 b2 = x := ⟨_, rfl⟩
  obtain ⟨⟨a, r4, b4⟩, h4⟩ : ∃ x, takeQ r3 b3 = x := ⟨_, rfl⟩
  obtain ⟨i1, j1, k1⟩ := text_inv6 h1 h
  obtain ⟨i2, -, j2⟩ := smallQ_inv h2 i1
  obtain ⟨i3, j3, v0, v1⟩ := num_inv6 h3 fun e => (i2 e).1
  obtain ⟨i4, j4⟩ := takeQ_inv h4 i3
  have ht := smallQ_range h2 (by omega)
  rw [ptQ_is h1 h2 h3 h4] at H
  split at H
  · simp only [Prod.mk.injEq] at H
    obtain ⟨rfl, rfl, rfl⟩ := H
    exact ⟨i4, by omega, zag_bounds v v0 v1, k1, ht⟩
  · simp only [Prod.mk.injEq] at H
    obtain ⟨rfl, rfl, rfl⟩ := H
    exact ⟨fun _ => rfl, Nat.zero_le _, zag_bounds v v0 v1, k1, ht⟩
theorem ptQ_good {r r' : ByteArray} {b : Bool} {p : Pt} (H : ptQ r b = (p, r', false)) (h : b = true → r = ⟨#[]⟩) : b = false ∧ p.ok = true ∧ r.data.toList = p.bytes ++ r'.data.toList := by
  obtain ⟨⟨s, r1, b1⟩, h1⟩ : ∃ x, textQ r b = x := ⟨_, rfl⟩
  obtain ⟨⟨t, r2, b2⟩, h2⟩ : ∃ x, smallQ r1 b1 1099511627776 = x := ⟨_, rfl⟩
  obtain ⟨⟨v, r3, b3⟩, h3⟩ : ∃ x, numQ r2 b2 = x := ⟨_, rfl⟩
  obtain ⟨⟨a, r4, b4⟩, h4⟩ : ∃ x, takeQ r3 b3 = x := ⟨_, rfl⟩
  obtain ⟨i1, j1, k1⟩ := text_inv6 h1 h
  obtain ⟨i2, -, j2⟩ := smallQ_inv h2 i1
  obtain ⟨i3, j3, v0, v1⟩ := num_inv6 h3 fun e => (i2 e).1
  rw [ptQ_is h1 h2 h3 h4] at H
  split at H
  · rename_i hok
    simp only [Prod.mk.injEq] at H
    obtain ⟨rfl, rfl, rfl⟩ := H
    obtain ⟨m3, -, g4⟩ := take_good6 h4 i3
    subst m3
    obtain ⟨m2, g3⟩ := num_good6 h3
    subst m2
    obtain ⟨m1, g2⟩ := smallQ_good h2
    subst m1
    obtain ⟨m0, g1⟩ := text_good6 h1
    refine ⟨m0, hok, ?_⟩
    unfold Pt.bytes
    simp only
    rw [zig_zag v v0, g1, g2, g3, g4]
    simp only [List.append_assoc]
  · simp at H

/-- How many points bytes say that they have; what is left ahead of the k-th; the k-th. -/
def cntP (S : ByteArray) : Int := (smallQ S false 1000).1
def stpP (S : ByteArray) : Nat → ByteArray × Bool
  | 0 => (smallQ S false 1000).2
  | k + 1 => (ptQ (stpP S k).1 (stpP S k).2).2
def ptP (S : ByteArray) (k : Nat) : Pt := (ptQ (stpP S k).1 (stpP S k).2).1
def outP (S : ByteArray) (k : Nat) : List Pt := (List.range k).map (ptP S)
/-- The points whose bytes they are. -/
def ptsQ (S : ByteArray) : Option (List Pt) := let n := (cntP S).toNat; if endQ (stpP S n).1 (stpP S n).2 = 0 then some (outP S n) else none
theorem cntP_bounds (S : ByteArray) : 0 ≤ cntP S ∧ cntP S ≤ 1000 := smallQ_range (show smallQ S false 1000 = (_, _, _) from rfl) (by omega)
theorem stpP_zero (S : ByteArray) : smallQ S false 1000 = (cntP S, (stpP S 0).1, (stpP S 0).2) := rfl
theorem stpP_step (S : ByteArray) (k : Nat) : ptQ (stpP S k).1 (stpP S k).2 = (ptP S k, (stpP S (k + 1)).1, (stpP S (k + 1)).2) := rfl
theorem outP_succ (S : ByteArray) (k : Nat) : outP S (k + 1) = outP S k ++ [ptP S k] := by unfold outP; rw [List.range_succ, List.map_append]; rfl
theorem outP_len (S : ByteArray) (k : Nat) : (outP S k).length = k := by unfold outP; simp
theorem stpP_inv (S : ByteArray) : ∀ k, ((stpP S k).2 = true → (stpP S k).1 = ⟨#[]⟩) ∧ (stpP S k).1.size ≤ S.size
  | 0 => by
    obtain ⟨h1, _, h3⟩ := smallQ_inv (stpP_zero S) (fun e => (by cases e))
    exact ⟨fun e => (h1 e).1, h3⟩
  | k + 1 => by
    obtain ⟨i1, i2⟩ := stpP_inv S k
    obtain ⟨h1, h2, _⟩ := ptQ_inv (stpP_step S k) i1
    exact ⟨h1, by omega⟩
theorem stpP_good {S : ByteArray} {k : Nat} (h : (stpP S (k + 1)).2 = false) : (stpP S k).2 = false := by
  have e := stpP_step S k
  rw [h] at e
  exact (ptQ_good e (stpP_inv S k).1).1
/-- Broken once, broken for good. -/
theorem stpP_bad {S : ByteArray} {k : Nat} (h : (stpP S k).2 = true) : ∀ n, k ≤ n → (stpP S n).2 = true := by
  intro n
  induction n with
  | zero => intro hk; obtain rfl : k = 0 := by omega
            exact h
  | succ n ih =>
    intro hk
    by_cases e : k = n + 1
    · rw [← e]; exact h
    · have h1 := ih (by omega)
      cases h2 : (stpP S (n + 1)).2 with
      | true => rfl
      | false => rw [stpP_good h2] at h1; cases h1
theorem outP_text {S : ByteArray} : ∀ k : Nat, (stpP S k).2 = false → S.data.toList = enc (cntP S).toNat ++ bytesP (outP S k) ++ (stpP S k).1.data.toList ∧ ∀ p ∈ outP S k, p.ok = true ∧ p.vfit
  | 0, h => by
    have e := stpP_zero S
    rw [h] at e
    have := (smallQ_good e).2
    refine ⟨by simpa [outP, bytesP] using this, fun p hp => by simp [outP] at hp⟩
  | k + 1, h => by
    obtain ⟨i1, i2⟩ := outP_text k (stpP_good h)
    have e := stpP_step S k
    rw [h] at e
    obtain ⟨g1, g2, g3⟩ := ptQ_good e (stpP_inv S k).1
    obtain ⟨-, -, g4, -⟩ := ptQ_inv e (stpP_inv S k).1
    refine ⟨by rw [i1, g3, outP_succ, bytesP_snoc]; simp only [List.append_assoc], fun p hp => ?_⟩
    rw [outP_succ] at hp
    rcases List.mem_append.1 hp with hp | hp
    · exact i2 p hp
    · rw [List.mem_singleton] at hp; subst hp; exact ⟨g2, g4⟩
/-- What is read as points are their bytes. -/
theorem ptsQ_some {S : ByteArray} {l : List Pt} (h : ptsQ S = some l) : (∀ p ∈ l, p.ok = true ∧ p.vfit) ∧ l.length ≤ 1000 ∧ tx (ptsB l) = S := by
  have hc := cntP_bounds S
  unfold ptsQ at h
  simp only at h
  split at h
  · rename_i hE
    obtain rfl := Option.some.inj h
    have hb : (stpP S (cntP S).toNat).2 = false := by
      cases hb : (stpP S (cntP S).toNat).2 with
      | false => rfl
      | true => rw [hb] at hE; simp [endQ] at hE
    rw [hb] at hE
    have hz : (stpP S (cntP S).toNat).1.size = 0 := by
      unfold endQ at hE
      rw [if_neg (by simp)] at hE
      split at hE
      · assumption
      · omega
    obtain ⟨g1, g2⟩ := outP_text _ hb
    refine ⟨g2, by rw [outP_len]; omega, ?_⟩
    have e0 : (stpP S (cntP S).toNat).1.data.toList = [] := by
      apply List.eq_nil_of_length_eq_zero
      simpa using hz
    rw [e0, List.append_nil] at g1
    apply list_inj
    rw [tx_list6, g1]
    unfold ptsB
    rw [outP_len]
  · cases h
/-- Points' bytes are read as they. -/
theorem read_pts (l : List Pt) (hl : l.length ≤ 1000) (hok : ∀ p ∈ l, p.ok = true ∧ p.vfit) (q : List UInt8) (S : ByteArray) (hS : tx (ptsB l ++ q) = S) : cntP S = (l.length : Int) ∧ ∀ k, k ≤ l.length → stpP S k = (tx (bytesP (l.drop k) ++ q), false) ∧ outP S k = l.take k := by
  have hz : smallQ S false 1000 = ((l.length : Int), tx (bytesP l ++ q), false) := by
    rw [← hS]
    unfold ptsB
    have := smallQ_enc (l.length : Int) 1000 (bytesP l ++ q) (by omega) (by omega) (by omega)
    rw [Int.toNat_natCast] at this
    rw [List.append_assoc]; exact this
  refine ⟨by unfold cntP; rw [hz], fun k => ?_⟩
  induction k with
  | zero =>
    intro _
    refine ⟨?_, by simp [outP]⟩
    show (smallQ S false 1000).2 = _
    rw [hz]; rfl
  | succ k ih =>
    intro hk
    obtain ⟨i1, i2⟩ := ih (by omega)
    have hkl : k < l.length := by omega
    obtain ⟨o1, o2⟩ := hok _ (List.getElem_mem hkl)
    have e1 : ptQ (stpP S k).1 (stpP S k).2 = (l[k], tx (bytesP (l.drop (k + 1)) ++ q), false) := by
      rw [i1, bytesP_drop l k hkl, List.append_assoc]
      exact ptQ_enc _ o1 o2 _
    have e2 := stpP_step S k
    rw [e1] at e2
    simp only [Prod.mk.injEq] at e2
    refine ⟨Prod.ext e2.2.1.symm e2.2.2.symm, ?_⟩
    rw [outP_succ, i2, ← e2.1, List.take_succ_eq_append_getElem hkl]
theorem ptsQ_enc (l : List Pt) (hl : l.length ≤ 1000) (hok : ∀ p ∈ l, p.ok = true ∧ p.vfit) : ptsQ (tx (ptsB l)) = some l := by
  obtain ⟨g1, g2⟩ := read_pts l hl hok [] (tx (ptsB l)) (by rw [List.append_nil])
  obtain ⟨g3, g4⟩ := g2 _ (Nat.le_refl _)
  have e : (cntP (tx (ptsB l))).toNat = l.length := by omega
  unfold ptsQ
  simp only [e, g3, g4, List.drop_length, List.take_length]
  exact if_pos (by decide)
end Go.Proofs.Ythifmfgnblecbaa

/- The contract of the document's TakeVector, wherever the reader stands. -/
set_option maxRecDepth 20000
namespace Go.Proofs.Ythifmfgnblecbaa
open Go.RowKit Go.Proofs.Ythifmfgnblecbaa.Vi Go.Proofs.Ythifmfgnblecbaa.Mk

/-- What TakeVector's loop has read. -/
structure TvG (w wr : World) (d : Nat) (S r : ByteArray) (o : Value) (k : Nat) : Prop where
  row : IRow wr w.heap.size o (outS r k)
  rs : RS wr d S (stp r k).1 (stp r k).2
  bel : But d w wr
theorem TvG.len {w wr : World} {d : Nat} {S r : ByteArray} {o : Value} {k : Nat} (R : TvG w wr d S r o k) : ∃ a c, o = .slice a k c := by
  have := R.row.slice; rw [outS_len] at this; exact this
/-- What TakeVector answers. -/
def TvGDone (d : Nat) (S r : ByteArray) (n : Nat) (w : World) (e : Ending) (w' : World) : Prop :=
  ∃ v, e = .returned v ∧ But d w w' ∧ (((stp r n).2 = false ∧ outS r n = plainL (outS r n) ∧ Ns w' v (outS r n) ∧ (∀ q, v.ownBlock = some q → w.heap.size ≤ q) ∧ RS w' d S (stp r n).1 false) ∨ (¬ ((stp r n).2 = false ∧ outS r n = plainL (outS r n)) ∧ v = .slice none 0 0 ∧ RS w' d S ⟨#[]⟩ true))

end Go.Proofs.Ythifmfgnblecbaa

/- The contract of the document's Read of records. -/
set_option maxRecDepth 20000
namespace Go.Proofs.Ythifmfgnblecbaa
open Go.RowKit Go.Proofs.Ythifmfgnblecbaa.Vi Go.Proofs.Ythifmfgnblecbaa.Mk

/-- What TakeVector reads. -/
def tvQ (r : ByteArray) (b : Bool) : List Int × ByteArray × Bool :=
  if b = true then ([], ⟨#[]⟩, true) else
  let n := (cntS r).toNat
  if (stp r n).2 = false ∧ outS r n = plainL (outS r n) then (outS r n, (stp r n).1, false) else ([], ⟨#[]⟩, true)
def Rec.zero : Rec := ⟨0, ⟨#[]⟩, 0, 0, 0, ⟨0, 0, 0⟩, []⟩
theorem recQ_tv {S r r' : ByteArray} {q : Rec} {b b' : Bool} {l : List Int} (h : headQ S = (q, r, b)) (ht : tvQ r b = (l, r', b')) : recQ S = if endQ r' b' = 0 ∧ Rec.ok { q with d := l } = true then some { q with d := l } else none := by
  unfold tvQ at ht
  cases b with
  | true =>
    rw [if_pos rfl] at ht
    simp only [Prod.mk.injEq] at ht
    obtain ⟨rfl, rfl, rfl⟩ := ht
    rw [recQ_bad h, if_neg]
    intro g; exact absurd g.1 (by decide)
  | false =>
    have hc := cntS_bounds r
    have hn : (((cntS r).toNat : Nat) : Int) = cntS r := by omega
    generalize (cntS r).toNat = n at *
    rw [if_neg (by simp)] at ht
    simp only at ht
    by_cases hA : (stp r n).2 = false ∧ outS r n = plainL (outS r n)
    · rw [if_pos hA] at ht
      simp only [Prod.mk.injEq] at ht
      obtain ⟨rfl, rfl, rfl⟩ := ht
      by_cases hE : endQ (stp r n).1 false = 0 ∧ Rec.ok { q with d := outS r n } = true
      · rw [if_pos hE]
        refine recQ_yes h hn hA.1 hA.2 ?_ hE.2
        have := hE.1
        unfold endQ at this
        rw [if_neg (by simp)] at this
        split at this
        · assumption
        · omega
      · rw [if_neg hE]
        refine recQ_no h hn fun g => hE ⟨?_, g.2.2.2⟩
        unfold endQ
        rw [if_neg (by simp), if_pos g.2.2.1]
    · rw [if_neg hA] at ht
      simp only [Prod.mk.injEq] at ht
      obtain ⟨rfl, rfl, rfl⟩ := ht
      rw [if_neg (fun g => absurd g.1 (by decide))]
      exact recQ_no h hn fun g => hA ⟨g.1, g.2.1⟩
/-- A record in a block that may be written. -/
structure RecW (w : World) (b : Nat) (r : Rec) (dv : Value) : Prop where
  at_ : RecAt w b r dv
  f0 : w.frozen? ⟨b, 0, none⟩ = false
  f1 : w.frozen? ⟨b, 1, none⟩ = false
  f2 : w.frozen? ⟨b, 2, none⟩ = false
  f3 : w.frozen? ⟨b, 3, none⟩ = false
  f4 : w.frozen? ⟨b, 4, none⟩ = false
  f5 : w.frozen? ⟨b, 5, none⟩ = false
  f6 : w.frozen? ⟨b, 6, none⟩ = false
  f7 : w.frozen? ⟨b, 7, none⟩ = false
  f8 : w.frozen? ⟨b, 8, none⟩ = false
theorem RecW.room {w : World} {b : Nat} {r : Rec} {dv : Value} (h : RecW w b r dv) : b < w.heap.size := h.at_.room
theorem RecW.but {w w' : World} {b d : Nat} {r : Rec} {dv : Value} (h : RecW w b r dv) (k : But d w w') (hd : b ≠ d) : RecW w' b r dv :=
  ⟨⟨(k.cell (p := ⟨b, 0, none⟩) hd h.room).trans h.at_.c0, (k.cell (p := ⟨b, 1, none⟩) hd h.room).trans h.at_.c1, (k.cell (p := ⟨b, 2, none⟩) hd h.room).trans h.at_.c2, (k.cell (p := ⟨b, 3, none⟩) hd h.room).trans h.at_.c3, (k.cell (p := ⟨b, 4, none⟩) hd h.room).trans h.at_.c4, (k.cell (p := ⟨b, 5, none⟩) hd h.room).trans h.at_.c5, (k.cell (p := ⟨b, 6, none⟩) hd h.room).trans h.at_.c6, (k.cell (p := ⟨b, 7, none⟩) hd h.room).trans h.at_.c7, (k.cell (p := ⟨b, 8, none⟩) hd h.room).trans h.at_.c8⟩,
   (k.frozen (p := ⟨b, 0, none⟩) hd h.room).trans h.f0, (k.frozen (p := ⟨b, 1, none⟩) hd h.room).trans h.f1, (k.frozen (p := ⟨b, 2, none⟩) hd h.room).trans h.f2, (k.frozen (p := ⟨b, 3, none⟩) hd h.room).trans h.f3, (k.frozen (p := ⟨b, 4, none⟩) hd h.room).trans h.f4, (k.frozen (p := ⟨b, 5, none⟩) hd h.room).trans h.f5, (k.frozen (p := ⟨b, 6, none⟩) hd h.room).trans h.f6, (k.frozen (p := ⟨b, 7, none⟩) hd h.room).trans h.f7, (k.frozen (p := ⟨b, 8, none⟩) hd h.room).trans h.f8⟩
theorem RecW.below {w w' : World} {b : Nat} {r : Rec} {dv : Value} (h : RecW w b r dv) (k : Below w.heap.size w w') : RecW w' b r dv :=
  ⟨⟨(k.cell (p := ⟨b, 0, none⟩) h.room).trans h.at_.c0, (k.cell (p := ⟨b, 1, none⟩) h.room).trans h.at_.c1, (k.cell (p := ⟨b, 2, none⟩) h.room).trans h.at_.c2, (k.cell (p := ⟨b, 3, none⟩) h.room).trans h.at_.c3, (k.cell (p := ⟨b, 4, none⟩) h.room).trans h.at_.c4, (k.cell (p := ⟨b, 5, none⟩) h.room).trans h.at_.c5, (k.cell (p := ⟨b, 6, none⟩) h.room).trans h.at_.c6, (k.cell (p := ⟨b, 7, none⟩) h.room).trans h.at_.c7, (k.cell (p := ⟨b, 8, none⟩) h.room).trans h.at_.c8⟩,
   (k.frozen (p := ⟨b, 0, none⟩) h.room).trans h.f0, (k.frozen (p := ⟨b, 1, none⟩) h.room).trans h.f1, (k.frozen (p := ⟨b, 2, none⟩) h.room).trans h.f2, (k.frozen (p := ⟨b, 3, none⟩) h.room).trans h.f3, (k.frozen (p := ⟨b, 4, none⟩) h.room).trans h.f4, (k.frozen (p := ⟨b, 5, none⟩) h.room).trans h.f5, (k.frozen (p := ⟨b, 6, none⟩) h.room).trans h.f6, (k.frozen (p := ⟨b, 7, none⟩) h.room).trans h.f7, (k.frozen (p := ⟨b, 8, none⟩) h.room).trans h.f8⟩
theorem RecW.new (w : World) (r : Rec) (dv : Value) : RecW (w.alloc (.cells #[.int .i64 r.k, .string r.s, .int .i64 r.t, .int .i64 r.v, .int .i64 r.tier, .int .i64 r.st.c, .int .i64 r.st.s, .int .i64 r.st.q, dv] 33)) w.heap.size r dv :=
  ⟨RecAt.new w r dv, by simp [go_sem], by simp [go_sem], by simp [go_sem], by simp [go_sem], by simp [go_sem], by simp [go_sem], by simp [go_sem], by simp [go_sem], by simp [go_sem]⟩
theorem RecW.other {w : World} {b : Nat} {r : Rec} {dv : Value} (h : RecW w b r dv) (x : Addr) (v : Value) (hne : x.block ≠ b) : RecW (w.setCell x v) b r dv :=
  ⟨⟨by rw [World.cell?_setCell_far _ _ _ _ hne]; exact h.at_.c0, by rw [World.cell?_setCell_far _ _ _ _ hne]; exact h.at_.c1, by rw [World.cell?_setCell_far _ _ _ _ hne]; exact h.at_.c2, by rw [World.cell?_setCell_far _ _ _ _ hne]; exact h.at_.c3, by rw [World.cell?_setCell_far _ _ _ _ hne]; exact h.at_.c4, by rw [World.cell?_setCell_far _ _ _ _ hne]; exact h.at_.c5, by rw [World.cell?_setCell_far _ _ _ _ hne]; exact h.at_.c6, by rw [World.cell?_setCell_far _ _ _ _ hne]; exact h.at_.c7, by rw [World.cell?_setCell_far _ _ _ _ hne]; exact h.at_.c8⟩,
   by simp [go_sem, h.f0], by simp [go_sem, h.f1], by simp [go_sem, h.f2], by simp [go_sem, h.f3], by simp [go_sem, h.f4], by simp [go_sem, h.f5], by simp [go_sem, h.f6], by simp [go_sem, h.f7], by simp [go_sem, h.f8]⟩
theorem RecW.set1 {w : World} {b : Nat} {r : Rec} {dv : Value} (h : RecW w b r dv) (z : ByteArray) : RecW (w.setCell ⟨b, 1, none⟩ (.string z)) b { r with s := z } dv := by
  obtain ⟨⟨x0, x1, x2, x3, x4, x5, x6, x7, x8⟩, y0, y1, y2, y3, y4, y5, y6, y7, y8⟩ := h
  exact ⟨⟨by simp [go_sem, x0], by simp [go_sem, x1], by simp [go_sem, x2], by simp [go_sem, x3], by simp [go_sem, x4], by simp [go_sem, x5], by simp [go_sem, x6], by simp [go_sem, x7], by simp [go_sem, x8]⟩, by simp [go_sem, y0], by simp [go_sem, y1], by simp [go_sem, y2], by simp [go_sem, y3], by simp [go_sem, y4], by simp [go_sem, y5], by simp [go_sem, y6], by simp [go_sem, y7], by simp [go_sem, y8]⟩
theorem RecW.set2 {w : World} {b : Nat} {r : Rec} {dv : Value} (h : RecW w b r dv) (z : Int) : RecW (w.setCell ⟨b, 2, none⟩ (.int .i64 z)) b { r with t := z } dv := by
  obtain ⟨⟨x0, x1, x2, x3, x4, x5, x6, x7, x8⟩, y0, y1, y2, y3, y4, y5, y6, y7, y8⟩ := h
  exact ⟨⟨by simp [go_sem, x0], by simp [go_sem, x1], by simp [go_sem, x2], by simp [go_sem, x3], by simp [go_sem, x4], by simp [go_sem, x5], by simp [go_sem, x6], by simp [go_sem, x7], by simp [go_sem, x8]⟩, by simp [go_sem, y0], by simp [go_sem, y1], by simp [go_sem, y2], by simp [go_sem, y3], by simp [go_sem, y4], by simp [go_sem, y5], by simp [go_sem, y6], by simp [go_sem, y7], by simp [go_sem, y8]⟩
theorem RecW.set3 {w : World} {b : Nat} {r : Rec} {dv : Value} (h : RecW w b r dv) (z : Int) : RecW (w.setCell ⟨b, 3, none⟩ (.int .i64 z)) b { r with v := z } dv := by
  obtain ⟨⟨x0, x1, x2, x3, x4, x5, x6, x7, x8⟩, y0, y1, y2, y3, y4, y5, y6, y7, y8⟩ := h
  exact ⟨⟨by simp [go_sem, x0], by simp [go_sem, x1], by simp [go_sem, x2], by simp [go_sem, x3], by simp [go_sem, x4], by simp [go_sem, x5], by simp [go_sem, x6], by simp [go_sem, x7], by simp [go_sem, x8]⟩, by simp [go_sem, y0], by simp [go_sem, y1], by simp [go_sem, y2], by simp [go_sem, y3], by simp [go_sem, y4], by simp [go_sem, y5], by simp [go_sem, y6], by simp [go_sem, y7], by simp [go_sem, y8]⟩
theorem RecW.set4 {w : World} {b : Nat} {r : Rec} {dv : Value} (h : RecW w b r dv) (z : Int) : RecW (w.setCell ⟨b, 4, none⟩ (.int .i64 z)) b { r with tier := z } dv := by
  obtain ⟨⟨x0, x1, x2, x3, x4, x5, x6, x7, x8⟩, y0, y1, y2, y3, y4, y5, y6, y7, y8⟩ := h
  exact ⟨⟨by simp [go_sem, x0], by simp [go_sem, x1], by simp [go_sem, x2], by simp [go_sem, x3], by simp [go_sem, x4], by simp [go_sem, x5], by simp [go_sem, x6], by simp [go_sem, x7], by simp [go_sem, x8]⟩, by simp [go_sem, y0], by simp [go_sem, y1], by simp [go_sem, y2], by simp [go_sem, y3], by simp [go_sem, y4], by simp [go_sem, y5], by simp [go_sem, y6], by simp [go_sem, y7], by simp [go_sem, y8]⟩
theorem RecW.set5 {w : World} {b : Nat} {r : Rec} {dv : Value} (h : RecW w b r dv) (z : St) : RecW (((w.setCell ⟨b, 5, none⟩ (.int .i64 z.c)).setCell ⟨b, 6, none⟩ (.int .i64 z.s)).setCell ⟨b, 7, none⟩ (.int .i64 z.q)) b { r with st := z } dv := by
  obtain ⟨⟨x0, x1, x2, x3, x4, x5, x6, x7, x8⟩, y0, y1, y2, y3, y4, y5, y6, y7, y8⟩ := h
  exact ⟨⟨by simp [go_sem, x0], by simp [go_sem, x1], by simp [go_sem, x2], by simp [go_sem, x3], by simp [go_sem, x4], by simp [go_sem, x5], by simp [go_sem, x6], by simp [go_sem, x7], by simp [go_sem, x8]⟩, by simp [go_sem, y0], by simp [go_sem, y1], by simp [go_sem, y2], by simp [go_sem, y3], by simp [go_sem, y4], by simp [go_sem, y5], by simp [go_sem, y6], by simp [go_sem, y7], by simp [go_sem, y8]⟩
theorem RecW.set8 {w : World} {b : Nat} {r : Rec} {dv : Value} (h : RecW w b r dv) (l : List Int) (z : Value) : RecW (w.setCell ⟨b, 8, none⟩ z) b { r with d := l } z := by
  obtain ⟨⟨x0, x1, x2, x3, x4, x5, x6, x7, x8⟩, y0, y1, y2, y3, y4, y5, y6, y7, y8⟩ := h
  exact ⟨⟨by simp [go_sem, x0], by simp [go_sem, x1], by simp [go_sem, x2], by simp [go_sem, x3], by simp [go_sem, x4], by simp [go_sem, x5], by simp [go_sem, x6], by simp [go_sem, x7], by simp [go_sem, x8]⟩, by simp [go_sem, y0], by simp [go_sem, y1], by simp [go_sem, y2], by simp [go_sem, y3], by simp [go_sem, y4], by simp [go_sem, y5], by simp [go_sem, y6], by simp [go_sem, y7], by simp [go_sem, y8]⟩

/-- Read's world between two parts: the result's block, the reader's, the record's. -/
structure RdS (w : World) (S r : ByteArray) (br : Bool) (e : Nat) (q : Rec) (dv : Value) (wr : World) : Prop where
  rs : RS wr (w.heap.size + 1) S r br
  out : RecW wr w.heap.size Rec.zero (.slice none 0 0)
  at_ : RecW wr e q dv
  far : w.heap.size + 2 ≤ e
  bel : Below w.heap.size w wr
theorem RdS.but {w wr w' : World} {S r r' : ByteArray} {br br' : Bool} {e : Nat} {q : Rec} {dv : Value} (h : RdS w S r br e q dv wr) (k : But (w.heap.size + 1) wr w') (hr : RS w' (w.heap.size + 1) S r' br') : RdS w S r' br' e q dv w' :=
  ⟨hr, h.out.but k (by omega), h.at_.but k (by have := h.far; omega), h.far, h.bel.trans (k.below (by omega) (by have := h.out.room; omega))⟩
theorem RdS.below {w wr w' : World} {S r : ByteArray} {br : Bool} {e : Nat} {q : Rec} {dv : Value} (h : RdS w S r br e q dv wr) (k : Below wr.heap.size wr w') : RdS w S r br e q dv w' :=
  ⟨h.rs.below k, h.out.below k, h.at_.below k, h.far, bel_next h.bel k⟩
theorem RdS.set1 {w wr : World} {S r : ByteArray} {br : Bool} {e : Nat} {q : Rec} {dv : Value} (h : RdS w S r br e q dv wr) (z : ByteArray) : RdS w S r br e { q with s := z } dv (wr.setCell ⟨e, 1, none⟩ (.string z)) := by
  have hf := h.far
  refine ⟨?_, ?_, h.at_.set1 z, h.far, ?_⟩
  · refine RS.other ?_ _ _ (show e ≠ _ by omega); exact h.rs
  · refine RecW.other ?_ _ _ (show e ≠ _ by omega); exact h.out
  · exact h.bel.setCell (by show _ ≤ e; omega) _
theorem RdS.set2 {w wr : World} {S r : ByteArray} {br : Bool} {e : Nat} {q : Rec} {dv : Value} (h : RdS w S r br e q dv wr) (z : Int) : RdS w S r br e { q with t := z } dv (wr.setCell ⟨e, 2, none⟩ (.int .i64 z)) := by
  have hf := h.far
  refine ⟨?_, ?_, h.at_.set2 z, h.far, ?_⟩
  · refine RS.other ?_ _ _ (show e ≠ _ by omega); exact h.rs
  · refine RecW.other ?_ _ _ (show e ≠ _ by omega); exact h.out
  · exact h.bel.setCell (by show _ ≤ e; omega) _
theorem RdS.set3 {w wr : World} {S r : ByteArray} {br : Bool} {e : Nat} {q : Rec} {dv : Value} (h : RdS w S r br e q dv wr) (z : Int) : RdS w S r br e { q with v := z } dv (wr.setCell ⟨e, 3, none⟩ (.int .i64 z)) := by
  have hf := h.far
  refine ⟨?_, ?_, h.at_.set3 z, h.far, ?_⟩
  · refine RS.other ?_ _ _ (show e ≠ _ by omega); exact h.rs
  · refine RecW.other ?_ _ _ (show e ≠ _ by omega); exact h.out
  · exact h.bel.setCell (by show _ ≤ e; omega) _
theorem RdS.set4 {w wr : World} {S r : ByteArray} {br : Bool} {e : Nat} {q : Rec} {dv : Value} (h : RdS w S r br e q dv wr) (z : Int) : RdS w S r br e { q with tier := z } dv (wr.setCell ⟨e, 4, none⟩ (.int .i64 z)) := by
  have hf := h.far
  refine ⟨?_, ?_, h.at_.set4 z, h.far, ?_⟩
  · refine RS.other ?_ _ _ (show e ≠ _ by omega); exact h.rs
  · refine RecW.other ?_ _ _ (show e ≠ _ by omega); exact h.out
  · exact h.bel.setCell (by show _ ≤ e; omega) _
theorem RdS.set5 {w wr : World} {S r : ByteArray} {br : Bool} {e : Nat} {q : Rec} {dv : Value} (h : RdS w S r br e q dv wr) (z : St) : RdS w S r br e { q with st := z } dv (((wr.setCell ⟨e, 5, none⟩ (.int .i64 z.c)).setCell ⟨e, 6, none⟩ (.int .i64 z.s)).setCell ⟨e, 7, none⟩ (.int .i64 z.q)) := by
  have hf := h.far
  refine ⟨?_, ?_, h.at_.set5 z, h.far, ?_⟩
  · refine RS.other ?_ _ _ (show e ≠ _ by omega); refine RS.other ?_ _ _ (show e ≠ _ by omega); refine RS.other ?_ _ _ (show e ≠ _ by omega); exact h.rs
  · refine RecW.other ?_ _ _ (show e ≠ _ by omega); refine RecW.other ?_ _ _ (show e ≠ _ by omega); refine RecW.other ?_ _ _ (show e ≠ _ by omega); exact h.out
  · exact ((h.bel.setCell (by show _ ≤ e; omega) _).setCell (by show _ ≤ e; omega) _).setCell (by show _ ≤ e; omega) _
theorem RdS.set8 {w wr : World} {S r : ByteArray} {br : Bool} {e : Nat} {q : Rec} {dv : Value} (h : RdS w S r br e q dv wr) (l : List Int) (z : Value) : RdS w S r br e { q with d := l } z (wr.setCell ⟨e, 8, none⟩ z) := by
  have hf := h.far
  refine ⟨?_, ?_, h.at_.set8 l z, h.far, ?_⟩
  · refine RS.other ?_ _ _ (show e ≠ _ by omega); exact h.rs
  · refine RecW.other ?_ _ _ (show e ≠ _ by omega); exact h.out
  · exact h.bel.setCell (by show _ ≤ e; omega) _
/-- Read's answer. -/
def Read6Done (S : ByteArray) (w : World) (e : Ending) (w' : World) : Prop := ∃ dv, e = .returned (.tuple #[recV ((recQ S).getD Rec.zero) dv, .int .i64 (if (recQ S).isSome then 0 else 10)]) ∧ Ns w' dv ((recQ S).getD Rec.zero).d ∧ Below w.heap.size w w'
theorem read6_some {S : ByteArray} {r : Rec} {dv : Value} {w w' : World} (h : recQ S = some r) (hn : Ns w' dv r.d) (hb : Below w.heap.size w w') : Read6Done S w (.returned (.tuple #[recV r dv, .int .i64 0])) w' := by
  unfold Read6Done
  rw [h]
  exact ⟨dv, rfl, hn, hb⟩
theorem read6_none {S : ByteArray} {w w' : World} (h : recQ S = none) (hb : Below w.heap.size w w') : Read6Done S w (.returned (.tuple #[recV Rec.zero (.slice none 0 0), .int .i64 10])) w' := by
  unfold Read6Done
  rw [h]
  exact ⟨_, rfl, (Nums.nil w' none 0).mono (Nat.zero_le _) (Nat.le_refl _), hb⟩
theorem take_range6 {r r' : ByteArray} {b b' : Bool} {a : St} (H : takeQ r b = (a, r', b')) (h : b = true → r = ⟨#[]⟩) : 0 ≤ a.s ∧ a.s ≤ 7 := by
  obtain ⟨v1, r1, b1, v2, r2, b2, v3, r3, b3, h1, h2, h3, i1, i2, i3, s1, s2, s3, ⟨o1, rfl, rfl, rfl, o2⟩ | ⟨_, rfl, _, _⟩⟩ := takeQ_parts H h
  · have := St.ok_iff.1 o1
    simp only at this ⊢
    omega
  · exact ⟨by simp, by simp⟩
theorem own_up {v : Value} {w : World} (h : ∀ q, v.ownBlock = some q → w.heap.size ≤ q) {B : Nat} (hB : B ≤ w.heap.size) : ∀ q, v.ownBlock = some q → B ≤ q := fun q hq => Nat.le_trans hB (h q hq)
theorem Nums.far {w : World} {v : Value} {l : List Int} (h : Ns w v l) {B : Nat} (hq : ∀ q, v.ownBlock = some q → B ≤ q) (x : Addr) (z : Value) (hx : x.block < B) : Ns (w.setCell x z) v l := by
  obtain ⟨⟨a, cap, rfl, hc⟩, hw, hs, hr⟩ := h
  have hsz : (w.setCell x z).heap.size = w.heap.size := by simp [World.setCell]
  refine ⟨⟨a, cap, rfl, ?_⟩, hw, hs, by omega⟩
  rcases hc with h0 | ⟨b, off, rfl, h4, h5⟩
  · exact Or.inl h0
  · have hb := hq b rfl
    refine Or.inr ⟨b, off, rfl, by omega, fun j hj => ?_⟩
    rw [World.cell?_setCell_far _ _ _ _ (show x.block ≠ b by omega)]
    exact h5 j hj
theorem nine_far {a : World} {v : Value} {l : List Int} (h : Ns a v l) {B : Nat} (hq : ∀ q, v.ownBlock = some q → B ≤ q) (b : Nat) (hb : b < B) (v0 v1 v2 v3 v4 v5 v6 v7 v8 : Value) : Ns (((((((((a.setCell ⟨b, 0, none⟩ v0).setCell ⟨b, 1, none⟩ v1).setCell ⟨b, 2, none⟩ v2).setCell ⟨b, 3, none⟩ v3).setCell ⟨b, 4, none⟩ v4).setCell ⟨b, 5, none⟩ v5).setCell ⟨b, 6, none⟩ v6).setCell ⟨b, 7, none⟩ v7).setCell ⟨b, 8, none⟩ v8) v l := (Nums.far (Nums.far (Nums.far (Nums.far (Nums.far (Nums.far (Nums.far (Nums.far (Nums.far h hq ⟨b, 0, none⟩ v0 hb) hq ⟨b, 1, none⟩ v1 hb) hq ⟨b, 2, none⟩ v2 hb) hq ⟨b, 3, none⟩ v3 hb) hq ⟨b, 4, none⟩ v4 hb) hq ⟨b, 5, none⟩ v5 hb) hq ⟨b, 6, none⟩ v6 hb) hq ⟨b, 7, none⟩ v7 hb) hq ⟨b, 8, none⟩ v8 hb)
theorem nine_set {B : Nat} {w a : World} (h : Below B w a) (b : Nat) (hb : B ≤ b) (v0 v1 v2 v3 v4 v5 v6 v7 v8 : Value) : Below B w (((((((((a.setCell ⟨b, 0, none⟩ v0).setCell ⟨b, 1, none⟩ v1).setCell ⟨b, 2, none⟩ v2).setCell ⟨b, 3, none⟩ v3).setCell ⟨b, 4, none⟩ v4).setCell ⟨b, 5, none⟩ v5).setCell ⟨b, 6, none⟩ v6).setCell ⟨b, 7, none⟩ v7).setCell ⟨b, 8, none⟩ v8) := (((((((((h.setCell (p := ⟨b, 0, none⟩) hb _).setCell (p := ⟨b, 1, none⟩) hb _).setCell (p := ⟨b, 2, none⟩) hb _).setCell (p := ⟨b, 3, none⟩) hb _).setCell (p := ⟨b, 4, none⟩) hb _).setCell (p := ⟨b, 5, none⟩) hb _).setCell (p := ⟨b, 6, none⟩) hb _).setCell (p := ⟨b, 7, none⟩) hb _).setCell (p := ⟨b, 8, none⟩) hb _)

end Go.Proofs.Ythifmfgnblecbaa

/- What bytes are read as points, with the points asked behind; the contracts of the program's take. -/
set_option maxRecDepth 20000
namespace Go.Proofs.Ythifmfgnblecbaa
open Go.RowKit Go.Proofs.Ythifmfgnblecbaa.Vi Go.Proofs.Ythifmfgnblecbaa.Mk

/-- One point as it is read, not asked whether it may be. -/
def ptR (r : ByteArray) (b : Bool) : Pt × ByteArray × Bool :=
  let a := textQ r b
  let c := smallQ a.2.1 a.2.2 1099511627776
  let e := numQ c.2.1 c.2.2
  let f := takeQ e.2.1 e.2.2
  (⟨a.1, c.1, zag e.1, f.1⟩, f.2.1, f.2.2)
theorem ptR_is {r r1 r2 r3 r4 s : ByteArray} {b b1 b2 b3 b4 : Bool} {t v : Int} {a : St} (h1 : textQ r b = (s, r1, b1)) (h2 : smallQ r1 b1 1099511627776 = (t, r2, b2)) (h3 : numQ r2 b2 = (v, r3, b3)) (h4 : takeQ r3 b3 = (a, r4, b4)) :
    ptR r b = (⟨s, t, zag v, a⟩, r4, b4) := by
  unfold ptR
  simp only [h1, h2, h3, h4]
theorem ptR_parts (r : ByteArray) (b : Bool) : ∃ s r1 b1 t r2 b2 v r3 b3 a r4 b4, textQ r b = (s, r1, b1) ∧ smallQ r1 b1 1099511627776 = (t, r2, b2) ∧ numQ r2 b2 = (v, r3, b3) ∧ takeQ r3 b3 = (a, r4, b4) ∧ ptR r b = (⟨s, t, zag v, a⟩, r4, b4) := by
  obtain ⟨⟨s, r1, b1⟩, h1⟩ : ∃ x, textQ r b = x := ⟨_, rfl⟩
  obtain ⟨⟨t, r2, b2⟩, h2⟩ : ∃ x, smallQ r1 b1 1099511627776 = x := ⟨_, rfl⟩
  obtain ⟨⟨v, r3, b3⟩, h3⟩ : ∃ x, numQ r2 b2 = x := ⟨_, rfl⟩
  obtain ⟨⟨a, r4, b4⟩, h4⟩ : ∃ x, takeQ r3 b3 = x := ⟨_, rfl⟩
  exact ⟨s, r1, b1, t, r2, b2, v, r3, b3, a, r4, b4, h1, h2, h3, h4, ptR_is h1 h2 h3 h4⟩
theorem ptQ_R (r : ByteArray) (b : Bool) : ptQ r b = if (ptR r b).1.ok = true then ptR r b else ((ptR r b).1, ⟨#[]⟩, true) := by
  obtain ⟨s, r1, b1, t, r2, b2, v, r3, b3, a, r4, b4, h1, h2, h3, h4, e⟩ := ptR_parts r b
  rw [ptQ_is h1 h2 h3 h4, e]
theorem ptR_inv {r r' : ByteArray} {b b' : Bool} {p : Pt} (H : ptR r b = (p, r', b')) (h : b = true → r = ⟨#[]⟩) : (b' = true → r' = ⟨#[]⟩) ∧ r'.size ≤ r.size ∧ p.s.size ≤ r.size := by
  obtain ⟨s, r1, b1, t, r2, b2, v, r3, b3, a, r4, b4, h1, h2, h3, h4, e⟩ := ptR_parts r b
  rw [e] at H
  simp only [Prod.mk.injEq] at H
  obtain ⟨rfl, rfl, rfl⟩ := H
  obtain ⟨i1, j1, k1⟩ := text_inv6 h1 h
  obtain ⟨i2, -, j2⟩ := smallQ_inv h2 i1
  obtain ⟨i3, j3, -, -⟩ := num_inv6 h3 fun e => (i2 e).1
  obtain ⟨i4, j4⟩ := takeQ_inv h4 i3
  exact ⟨i4, by omega, k1⟩
def stpR (S : ByteArray) : Nat → ByteArray × Bool
  | 0 => (smallQ S false 1000).2
  | k + 1 => (ptR (stpR S k).1 (stpR S k).2).2
def pR (S : ByteArray) (k : Nat) : Pt := (ptR (stpR S k).1 (stpR S k).2).1
def outR (S : ByteArray) (k : Nat) : List Pt := (List.range k).map (pR S)
theorem stpR_zero (S : ByteArray) : smallQ S false 1000 = (cntP S, (stpR S 0).1, (stpR S 0).2) := rfl
theorem stpR_step (S : ByteArray) (k : Nat) : ptR (stpR S k).1 (stpR S k).2 = (pR S k, (stpR S (k + 1)).1, (stpR S (k + 1)).2) := rfl
theorem outR_succ (S : ByteArray) (k : Nat) : outR S (k + 1) = outR S k ++ [pR S k] := by unfold outR; rw [List.range_succ, List.map_append]; rfl
theorem outR_len (S : ByteArray) (k : Nat) : (outR S k).length = k := by unfold outR; simp
theorem stpR_inv (S : ByteArray) : ∀ k, ((stpR S k).2 = true → (stpR S k).1 = ⟨#[]⟩) ∧ (stpR S k).1.size ≤ S.size
  | 0 => by
    obtain ⟨h1, _, h3⟩ := smallQ_inv (stpR_zero S) (fun e => (by cases e))
    exact ⟨fun e => (h1 e).1, h3⟩
  | k + 1 => by
    obtain ⟨i1, i2⟩ := stpR_inv S k
    obtain ⟨h1, h2, _⟩ := ptR_inv (stpR_step S k) i1
    exact ⟨h1, by omega⟩
theorem pR_size (S : ByteArray) (k : Nat) : (pR S k).s.size ≤ S.size := by
  have := (ptR_inv (stpR_step S k) (stpR_inv S k).1).2.2
  have := (stpR_inv S k).2
  omega
theorem outR_at (S : ByteArray) (n k : Nat) (h : k < (outR S n).length) : (outR S n)[k] = pR S k := by simp only [outR, List.getElem_map, List.getElem_range]
/-- As long as all points may be, both ways of reading are one. -/
theorem same_R (S : ByteArray) : ∀ k, (∀ j, j < k → (pR S j).ok = true) → stpP S k = stpR S k ∧ outP S k = outR S k
  | 0, _ => ⟨rfl, by simp [outP, outR]⟩
  | k + 1, h => by
    obtain ⟨i1, i2⟩ := same_R S k fun j hj => h j (by omega)
    have hk := h k (by omega)
    have e : ptQ (stpP S k).1 (stpP S k).2 = ptR (stpR S k).1 (stpR S k).2 := by
      rw [i1, ptQ_R]; exact if_pos hk
    refine ⟨?_, ?_⟩
    · show (ptQ (stpP S k).1 (stpP S k).2).2 = (ptR (stpR S k).1 (stpR S k).2).2
      rw [e]
    · rw [outP_succ, outR_succ, i2]
      show outR S k ++ [(ptQ (stpP S k).1 (stpP S k).2).1] = outR S k ++ [(ptR (stpR S k).1 (stpR S k).2).1]
      rw [e]
theorem bad_endR {S : ByteArray} {n : Nat} (hall : ¬ ∀ j, j < n → (pR S j).ok = true) : endQ (stpP S n).1 (stpP S n).2 ≠ 0 := by
  have hb : (stpP S n).2 = true := by
    by_cases e : (stpP S n).2 = true
    · exact e
    · exfalso
      apply hall
      intro j
      induction j using Nat.strongRecOn with
      | ind j ih =>
        intro hj
        have h1 := same_R S j fun i hi => ih i hi (by omega)
        cases hk : (pR S j).ok with
        | true => rfl
        | false =>
          exfalso
          apply e
          refine stpP_bad (k := j + 1) ?_ n (by omega)
          show (ptQ (stpP S j).1 (stpP S j).2).2.2 = true
          have hk' : ¬ (ptR (stpR S j).1 (stpR S j).2).1.ok = true := by show ¬ (pR S j).ok = true; rw [hk]; simp
          rw [h1.1, ptQ_R, if_neg hk']
  rw [hb]; unfold endQ; rw [if_pos rfl]; decide
theorem ptsQ_no_end {S : ByteArray} {n : Nat} (hn : (n : Int) = cntP S) (h : endQ (stpR S n).1 (stpR S n).2 ≠ 0) : ptsQ S = none := by
  have e : (cntP S).toNat = n := by omega
  unfold ptsQ
  simp only [e]
  rw [if_neg]
  intro hE
  by_cases hall : ∀ j, j < n → (pR S j).ok = true
  · rw [(same_R S n hall).1] at hE; exact h hE
  · exact absurd hE (bad_endR hall)
theorem ptsQ_no_ok {S : ByteArray} {n k : Nat} (hn : (n : Int) = cntP S) (hk : k < n) (h : (pR S k).ok = false) : ptsQ S = none := by
  have e : (cntP S).toNat = n := by omega
  unfold ptsQ
  simp only [e]
  rw [if_neg]
  exact bad_endR fun hall => by rw [hall k hk] at h; cases h
theorem ptsQ_yes {S : ByteArray} {n : Nat} (hn : (n : Int) = cntP S) (h : endQ (stpR S n).1 (stpR S n).2 = 0) (hall : ∀ j, j < n → (pR S j).ok = true) : ptsQ S = some (outR S n) := by
  have e : (cntP S).toNat = n := by omega
  obtain ⟨h1, h2⟩ := same_R S n hall
  unfold ptsQ
  simp only [e]
  rw [h1, h2, if_pos h]

/-- A point in a block that may be written. -/
structure PtW (w : World) (b : Nat) (p : Pt) : Prop where
  at_ : PtAt w b p
  f0 : w.frozen? ⟨b, 0, none⟩ = false
  f1 : w.frozen? ⟨b, 1, none⟩ = false
  f2 : w.frozen? ⟨b, 2, none⟩ = false
  f3 : w.frozen? ⟨b, 3, none⟩ = false
  f4 : w.frozen? ⟨b, 4, none⟩ = false
  f5 : w.frozen? ⟨b, 5, none⟩ = false
theorem PtW.but {w w' : World} {b d : Nat} {p : Pt} (h : PtW w b p) (k : But d w w') (hd : b ≠ d) : PtW w' b p :=
  ⟨⟨(k.cell (p := ⟨b, 0, none⟩) hd h.at_.room).trans h.at_.c0, (k.cell (p := ⟨b, 1, none⟩) hd h.at_.room).trans h.at_.c1, (k.cell (p := ⟨b, 2, none⟩) hd h.at_.room).trans h.at_.c2, (k.cell (p := ⟨b, 3, none⟩) hd h.at_.room).trans h.at_.c3, (k.cell (p := ⟨b, 4, none⟩) hd h.at_.room).trans h.at_.c4, (k.cell (p := ⟨b, 5, none⟩) hd h.at_.room).trans h.at_.c5⟩,
   (k.frozen (p := ⟨b, 0, none⟩) hd h.at_.room).trans h.f0, (k.frozen (p := ⟨b, 1, none⟩) hd h.at_.room).trans h.f1, (k.frozen (p := ⟨b, 2, none⟩) hd h.at_.room).trans h.f2, (k.frozen (p := ⟨b, 3, none⟩) hd h.at_.room).trans h.f3, (k.frozen (p := ⟨b, 4, none⟩) hd h.at_.room).trans h.f4, (k.frozen (p := ⟨b, 5, none⟩) hd h.at_.room).trans h.f5⟩
theorem RA.farB {w w' : World} {d B : Nat} {r : ByteArray} {br : Bool} (h : RA w d r br) (k : Below B w w') (hd : d < B) : RA w' d r br :=
  ⟨(k.cell (p := ⟨d, 0, none⟩) hd).trans h.c0, (k.cell (p := ⟨d, 1, none⟩) hd).trans h.c1, (k.frozen (p := ⟨d, 0, none⟩) hd).trans h.f0, (k.frozen (p := ⟨d, 1, none⟩) hd).trans h.f1⟩
theorem six_at {B : Nat} {w a : World} (h : Below B w a) (b : Nat) (hb : B ≤ b) (v0 v1 v2 v3 v4 v5 : Value) : Below B w ((((((a.setCell ⟨b, 0, none⟩ v0).setCell ⟨b, 1, none⟩ v1).setCell ⟨b, 2, none⟩ v2).setCell ⟨b, 3, none⟩ v3).setCell ⟨b, 4, none⟩ v4).setCell ⟨b, 5, none⟩ v5) :=
  (((((h.setCell (p := ⟨b, 0, none⟩) hb _).setCell (p := ⟨b, 1, none⟩) hb _).setCell (p := ⟨b, 2, none⟩) hb _).setCell (p := ⟨b, 3, none⟩) hb _).setCell (p := ⟨b, 4, none⟩) hb _).setCell (p := ⟨b, 5, none⟩) hb _

end Go.Proofs.Ythifmfgnblecbaa

/- The contracts of the program's list of points and of ReadPoints. -/
set_option maxRecDepth 20000
namespace Go.Proofs.Ythifmfgnblecbaa
open Go.RowKit Go.Proofs.Ythifmfgnblecbaa.Vi Go.Proofs.Ythifmfgnblecbaa.Mk

theorem owns6_but {w w' : World} {B d size n : Nat} {e : TypeId} {v : Value} {xs : List Value} (h : w.ownsRow B e size v n xs) (k : But d w w') (hd : d < B) : w'.ownsRow B e size v n xs := by
  obtain ⟨h1, h2⟩ := h
  refine ⟨h1, ?_⟩
  rcases h2 with h2 | ⟨g, cap, cur, e1, e2, e3, rest⟩
  · exact Or.inl h2
  · have hg : g < w.heap.size := (Array.getElem?_eq_some_iff.1 e3).1
    exact Or.inr ⟨g, cap, cur, e1, e2, (k.block g hg (by omega)).trans e3, rest⟩
end Go.Proofs.Ythifmfgnblecbaa

/- The contract of the document's ReadPoints. -/
set_option maxRecDepth 20000
namespace Go.Proofs.Ythifmfgnblecbaa
open Go.RowKit Go.Proofs.Ythifmfgnblecbaa.Vi Go.Proofs.Ythifmfgnblecbaa.Mk

theorem ptsQ_end {S : ByteArray} {n : Nat} (hn : (n : Int) = cntP S) : ptsQ S = if endQ (stpP S n).1 (stpP S n).2 = 0 then some (outP S n) else none := by
  have e : (cntP S).toNat = n := by omega
  unfold ptsQ
  simp only [e]
theorem ptsQ_bad {S : ByteArray} {n k : Nat} (hn : (n : Int) = cntP S) (hk : k ≤ n) (h : (stpP S k).2 = true) : ptsQ S = none := by
  rw [ptsQ_end hn, if_neg]
  rw [stpP_bad h n hk]; unfold endQ; rw [if_pos rfl]; decide
theorem PtW.other {w : World} {b : Nat} {p : Pt} (h : PtW w b p) (x : Addr) (v : Value) (hne : x.block ≠ b) : PtW (w.setCell x v) b p :=
  ⟨⟨by rw [World.cell?_setCell_far _ _ _ _ hne]; exact h.at_.c0, by rw [World.cell?_setCell_far _ _ _ _ hne]; exact h.at_.c1, by rw [World.cell?_setCell_far _ _ _ _ hne]; exact h.at_.c2, by rw [World.cell?_setCell_far _ _ _ _ hne]; exact h.at_.c3, by rw [World.cell?_setCell_far _ _ _ _ hne]; exact h.at_.c4, by rw [World.cell?_setCell_far _ _ _ _ hne]; exact h.at_.c5⟩, by simp [go_sem, h.f0], by simp [go_sem, h.f1], by simp [go_sem, h.f2], by simp [go_sem, h.f3], by simp [go_sem, h.f4], by simp [go_sem, h.f5]⟩
theorem PtW.below {w w' : World} {b : Nat} {p : Pt} (h : PtW w b p) (k : Below w.heap.size w w') : PtW w' b p :=
  ⟨h.at_.below k h.at_.room, (k.frozen (p := ⟨b, 0, none⟩) h.at_.room).trans h.f0, (k.frozen (p := ⟨b, 1, none⟩) h.at_.room).trans h.f1, (k.frozen (p := ⟨b, 2, none⟩) h.at_.room).trans h.f2, (k.frozen (p := ⟨b, 3, none⟩) h.at_.room).trans h.f3, (k.frozen (p := ⟨b, 4, none⟩) h.at_.room).trans h.f4, (k.frozen (p := ⟨b, 5, none⟩) h.at_.room).trans h.f5⟩
theorem PtW.set1 {w : World} {b : Nat} {p : Pt} (h : PtW w b p) (z : Int) : PtW (w.setCell ⟨b, 1, none⟩ (.int .i64 z)) b { p with t := z } := by
  obtain ⟨⟨x0, x1, x2, x3, x4, x5⟩, y0, y1, y2, y3, y4, y5⟩ := h
  exact ⟨⟨by simp [go_sem, x0], by simp [go_sem, x1], by simp [go_sem, x2], by simp [go_sem, x3], by simp [go_sem, x4], by simp [go_sem, x5]⟩, by simp [go_sem, y0], by simp [go_sem, y1], by simp [go_sem, y2], by simp [go_sem, y3], by simp [go_sem, y4], by simp [go_sem, y5]⟩
theorem PtW.set2 {w : World} {b : Nat} {p : Pt} (h : PtW w b p) (z : Int) : PtW (w.setCell ⟨b, 2, none⟩ (.int .i64 z)) b { p with v := z } := by
  obtain ⟨⟨x0, x1, x2, x3, x4, x5⟩, y0, y1, y2, y3, y4, y5⟩ := h
  exact ⟨⟨by simp [go_sem, x0], by simp [go_sem, x1], by simp [go_sem, x2], by simp [go_sem, x3], by simp [go_sem, x4], by simp [go_sem, x5]⟩, by simp [go_sem, y0], by simp [go_sem, y1], by simp [go_sem, y2], by simp [go_sem, y3], by simp [go_sem, y4], by simp [go_sem, y5]⟩
theorem PtW.set3 {w : World} {b : Nat} {p : Pt} (h : PtW w b p) (z : St) : PtW (((w.setCell ⟨b, 3, none⟩ (.int .i64 z.c)).setCell ⟨b, 4, none⟩ (.int .i64 z.s)).setCell ⟨b, 5, none⟩ (.int .i64 z.q)) b { p with st := z } := by
  obtain ⟨⟨x0, x1, x2, x3, x4, x5⟩, y0, y1, y2, y3, y4, y5⟩ := h
  exact ⟨⟨by simp [go_sem, x0], by simp [go_sem, x1], by simp [go_sem, x2], by simp [go_sem, x3], by simp [go_sem, x4], by simp [go_sem, x5]⟩, by simp [go_sem, y0], by simp [go_sem, y1], by simp [go_sem, y2], by simp [go_sem, y3], by simp [go_sem, y4], by simp [go_sem, y5]⟩

/-- A round between two parts: the reader, the point that is being read; nothing else that was there has turned. -/
structure RdP (wr : World) (d : Nat) (S r : ByteArray) (br : Bool) (e : Nat) (p : Pt) (wx : World) : Prop where
  rs : RS wx d S r br
  at_ : PtW wx e p
  far : wr.heap.size ≤ e
  room : d < wr.heap.size
  bel : But d wr wx
theorem RdP.but {wr wx w' : World} {d : Nat} {S r r' : ByteArray} {br br' : Bool} {e : Nat} {p : Pt} (h : RdP wr d S r br e p wx) (k : But d wx w') (hr : RS w' d S r' br') : RdP wr d S r' br' e p w' :=
  ⟨hr, h.at_.but k (by have := h.far; have := h.room; omega), h.far, h.room, h.bel.trans k⟩
theorem RdP.below {wr wx w' : World} {d : Nat} {S r : ByteArray} {br : Bool} {e : Nat} {p : Pt} (h : RdP wr d S r br e p wx) (k : Below wx.heap.size wx w') : RdP wr d S r br e p w' :=
  ⟨h.rs.below k, h.at_.below k, h.far, h.room, h.bel.trans (But.of k)⟩
theorem But.up {d : Nat} {wr wx : World} (h : But d wr wx) (x : Addr) (v : Value) (hx : wr.heap.size ≤ x.block) : But d wr (wx.setCell x v) :=
  h.ofB ((Below.refl wr.heap.size wx).setCell hx v) (Nat.le_refl _)
theorem RdP.spoil {wr wx : World} {d : Nat} {S r : ByteArray} {br : Bool} {e : Nat} {p : Pt} (h : RdP wr d S r br e p wx) : RdP wr d S ⟨#[]⟩ true e p (wx.setCell ⟨d, 2, none⟩ (.bool true)) :=
  ⟨h.rs.spoil, h.at_.other _ _ (by show d ≠ e; have := h.far; have := h.room; omega), h.far, h.room, h.bel.setCell _ _⟩
theorem RdP.set1 {wr wx : World} {d : Nat} {S r : ByteArray} {br : Bool} {e : Nat} {p : Pt} (h : RdP wr d S r br e p wx) (z : Int) : RdP wr d S r br e { p with t := z } (wx.setCell ⟨e, 1, none⟩ (.int .i64 z)) := by
  have hf := h.far
  have hd := h.room
  refine ⟨?_, h.at_.set1 z, hf, hd, ?_⟩
  · refine RS.other ?_ _ _ (show e ≠ _ by omega); exact h.rs
  · exact (But.up h.bel ⟨e, 1, none⟩ (.int .i64 z) hf)
theorem RdP.set2 {wr wx : World} {d : Nat} {S r : ByteArray} {br : Bool} {e : Nat} {p : Pt} (h : RdP wr d S r br e p wx) (z : Int) : RdP wr d S r br e { p with v := z } (wx.setCell ⟨e, 2, none⟩ (.int .i64 z)) := by
  have hf := h.far
  have hd := h.room
  refine ⟨?_, h.at_.set2 z, hf, hd, ?_⟩
  · refine RS.other ?_ _ _ (show e ≠ _ by omega); exact h.rs
  · exact (But.up h.bel ⟨e, 2, none⟩ (.int .i64 z) hf)
theorem RdP.set3 {wr wx : World} {d : Nat} {S r : ByteArray} {br : Bool} {e : Nat} {p : Pt} (h : RdP wr d S r br e p wx) (z : St) : RdP wr d S r br e { p with st := z } (((wx.setCell ⟨e, 3, none⟩ (.int .i64 z.c)).setCell ⟨e, 4, none⟩ (.int .i64 z.s)).setCell ⟨e, 5, none⟩ (.int .i64 z.q)) := by
  have hf := h.far
  have hd := h.room
  refine ⟨?_, h.at_.set3 z, hf, hd, ?_⟩
  · refine RS.other ?_ _ _ (show e ≠ _ by omega); refine RS.other ?_ _ _ (show e ≠ _ by omega); refine RS.other ?_ _ _ (show e ≠ _ by omega); exact h.rs
  · exact (But.up (But.up (But.up h.bel ⟨e, 3, none⟩ (.int .i64 z.c) hf) ⟨e, 4, none⟩ (.int .i64 z.s) hf) ⟨e, 5, none⟩ (.int .i64 z.q) hf)
theorem ptQ_parts (r : ByteArray) (b : Bool) : ∃ s r1 b1 t r2 b2 v r3 b3 a r4 b4, textQ r b = (s, r1, b1) ∧ smallQ r1 b1 1099511627776 = (t, r2, b2) ∧ numQ r2 b2 = (v, r3, b3) ∧ takeQ r3 b3 = (a, r4, b4) ∧ ptQ r b = if Pt.ok ⟨s, t, zag v, a⟩ = true then (⟨s, t, zag v, a⟩, r4, b4) else (⟨s, t, zag v, a⟩, ⟨#[]⟩, true) := by
  obtain ⟨⟨s, r1, b1⟩, h1⟩ : ∃ x, textQ r b = x := ⟨_, rfl⟩
  obtain ⟨⟨t, r2, b2⟩, h2⟩ : ∃ x, smallQ r1 b1 1099511627776 = x := ⟨_, rfl⟩
  obtain ⟨⟨v, r3, b3⟩, h3⟩ : ∃ x, numQ r2 b2 = x := ⟨_, rfl⟩
  obtain ⟨⟨a, r4, b4⟩, h4⟩ : ∃ x, takeQ r3 b3 = x := ⟨_, rfl⟩
  exact ⟨s, r1, b1, t, r2, b2, v, r3, b3, a, r4, b4, h1, h2, h3, h4, ptQ_is h1 h2 h3 h4⟩

theorem stpP_size (S : ByteArray) (k : Nat) : (ptP S k).s.size ≤ S.size := by
  have := (ptQ_inv (stpP_step S k) (stpP_inv S k).1).2.2.2.1
  have := (stpP_inv S k).2
  omega

end Go.Proofs.Ythifmfgnblecbaa

/- The document's network: Oldest, Tick, Send. -/
import Derived.Test.YtnjabhjcnkbgpaaNetRefLs
set_option maxRecDepth 20000
set_option linter.unusedSimpArgs false
set_option linter.unusedVariables false
namespace Go.Proofs.Ytnjabhjcnkbgpaa
open Go.RowKit

def maxA (l : List Ml) : Int := l.foldl (fun mx m => if mx < m.a then m.a else mx) 0
theorem maxA_snoc (l : List Ml) (m : Ml) : maxA (l ++ [m]) = if maxA l < m.a then m.a else maxA l := by unfold maxA; rw [List.foldl_append]; rfl
section
variable {w : World} {B r : Nat} {VL VP : Value} {R : RN}
set_option maxHeartbeats 2000000 in
theorem roldest_is (h : RAt w B r VL VP R) : Calls Try.prog 33 #[.pointer (some ⟨r, 0, none⟩)] w fun e w' => e = .returned (.int .i64 (maxA R.mail)) ∧ w = w' := by
  obtain ⟨la, lc, rfl⟩ := h.rowL.slice
  obtain ⟨n, hn⟩ : ∃ n, R.mail.length = n := ⟨_, rfl⟩
  have HN := Lib.hid hn
  have hlm := h.len
  rw [hn] at h hlm
  have H := Lib.hid h
  obtain ⟨c0, -, -, -⟩ := h.c0
  clear h hn
  go_enter Try.func33, Try.ntmps33
  go_wp2
  go_loopw [3, 4] (fun u i wr => ∃ k : Nat, k ≤ n ∧ i = .int .i64 (k : Int) ∧ u = .int .i64 (maxA (R.mail.take k)) ∧ w = wr) (fun _ i _ => n - (intOf i).toNat)
  case atStart => exact ⟨0, by omega, rfl, rfl, by simp⟩
  case round =>
    obtain ⟨k, hk, rfl, rfl, rfl⟩ := hrel
    obtain ⟨mx, hmx⟩ : ∃ x, maxA (R.mail.take k) = x := ⟨_, rfl⟩
    rw [hmx]
    by_cases hkn : k < n
    · have hki : (k : Int) < (n : Int) := by omega
      have hkw : IntKind.i64.wrap ((k : Int) + 1) = (k : Int) + 1 := by rw [IntKind.wrap_i64]; omega
      have hkl : k < R.mail.length := by rw [HN.out]; exact hkn
      obtain ⟨g, rfl, -, -, hgl, -, hat⟩ := H.out.rowL.block (by omega)
      have m4 := (hat k hkl).c4
      obtain ⟨m, hm⟩ : ∃ m, R.mail[k] = m := ⟨_, rfl⟩
      rw [hm] at m4
      have hst : maxA (R.mail.take (k + 1)) = if mx < m.a then m.a else mx := by rw [List.take_succ_eq_append_getElem hkl, maxA_snoc, hm, hmx]
      by_cases hlt : mx < m.a
      · have HS := Lib.hid (hst.trans (if_pos hlt))
        clear hat hm hkl hkn hmx hst
        go_wp2
        go_roundw
        case rel => exact ⟨k + 1, by omega, by go_num, by rw [HS.out], by simp⟩
        case measure => simp [intOf]; omega
      · have HS := Lib.hid (hst.trans (if_neg hlt))
        clear hat hm hkl hkn hmx hst
        go_wp2
        go_roundw
        case rel => exact ⟨k + 1, by omega, by go_num, by rw [HS.out], by simp⟩
        case measure => simp [intOf]; omega
    · have hki : ¬ (k : Int) < (n : Int) := by omega
      obtain rfl : k = n := by omega
      have HE := Lib.hid (show maxA R.mail = mx by rw [← hmx, List.take_of_length_le (l := R.mail) (by rw [HN.out]; exact Nat.le_refl _)])
      clear hkn hmx
      go_wp2
      go_ret
      exact ⟨by rw [HE.out]; rfl, rfl⟩
set_option maxHeartbeats 2000000 in
theorem rtick_is (h : RAt w B r VL VP R) : Calls Try.prog 23 #[.pointer (some ⟨r, 0, none⟩)] w (RDone B r VL VP { R with mail := R.mail.map older } (.tuple #[]) w) := by
  obtain ⟨a, c, rfl⟩ := h.rowL.slice
  obtain ⟨n, hn⟩ : ∃ n, R.mail.length = n := ⟨_, rfl⟩
  have HN := Lib.hid hn
  have H := Lib.hid h
  obtain ⟨c0, -⟩ := h.c0
  have hn2 := h.len
  rw [hn] at c0 hn2 ⊢
  clear h hn
  go_enter Try.func23, Try.ntmps23
  go_wp2
  go_loopw [2] (fun i wr => ∃ k : Nat, k ≤ n ∧ i = .int .i64 (k : Int) ∧ RW w wr B r (.slice a n c) VP (.slice a n c) VP { R with mail := oldL R.mail k }) (fun i _ => n - (intOf i).toNat)
  case atStart =>
    have q := RW.refl H.out
    rw [HN.out] at q
    refine ⟨0, by omega, rfl, ?_⟩
    have e : oldL R.mail 0 = R.mail := by unfold oldL; simp
    rw [e]; exact q
  case round =>
    obtain ⟨k, hk, rfl, hw⟩ := hrel
    obtain ⟨w3, hw3⟩ : ∃ x, x = wr := ⟨_, rfl⟩
    subst hw3
    have HW := Lib.hid hw
    obtain ⟨c3, -⟩ := hw.at_.c0
    have hrow := hw.at_.rowL
    clear hw c0
    by_cases hkn : k < n
    · have hki : (k : Int) < (n : Int) := by omega
      have hkl : k < R.mail.length := by rw [HN.out]; exact hkn
      have hw1 : IntKind.i64.wrap ((k : Int) + 1) = (k : Int) + 1 := by rw [IntKind.wrap_i64]; omega
      have hko : k < (oldL R.mail k).length := by rw [old_len]; exact hkl
      have hrow' : MRow w3 B (.slice a n c) (oldL R.mail k) := hrow
      obtain ⟨g, rfl, hng, hBg, hgl, hfz, hat⟩ := hrow'.block (by omega)
      have m4 := (hat k hko).c4
      rw [old_at hkl] at m4
      have f4 := hfz (k * 5 + 4)
      obtain ⟨z, hz⟩ : ∃ z, IntKind.i64.wrap (R.mail[k].a + 1) = z := ⟨_, rfl⟩
      obtain ⟨x, hx⟩ : ∃ x, R.mail[k].a = x := ⟨_, rfl⟩
      have hset := old_set hkl
      unfold inc at hset
      rw [hz] at hset
      rw [hx] at hz m4
      have hNX : RW w (w3.setCell ⟨g, k * 5 + 4, none⟩ (.int .i64 z)) B r (.slice (some ⟨g, 0, none⟩) n c) VP (.slice (some ⟨g, 0, none⟩) n c) VP { R with mail := oldL R.mail (k + 1) } := by
        have hl0 : (oldL R.mail k).length = n := by rw [old_len, HN.out]
        have hl1 : (oldL R.mail (k + 1)).length = n := by rw [old_len, HN.out]
        have hst := World.ownsRow.stored (show w3.ownsRow B 34 5 (.slice (some ⟨g, 0, none⟩) n c) n ((oldL R.mail k).flatMap mcells) by have := hrow'; unfold MRow at this; rw [hl0] at this; exact this) (k * 5 + 4) (.int .i64 z)
        rw [hset] at hst
        obtain ⟨cur, hcur⟩ := row_heap hrow' (k := g) rfl
        have hgr : r ≠ g := fun e => kinds_ne HW.out.at_.hb hcur (by decide) e
        refine ⟨⟨(heap_setCell_other _ _ _ _ hgr).trans HW.out.at_.hb, by unfold MRow; rw [hl1]; exact hst.1, row_of HW.out.at_.rowP fun i hi => heap_setCell_other _ _ _ _ (fun e => by obtain ⟨c2, h2⟩ := row_heap HW.out.at_.rowP hi; exact kinds_ne h2 hcur (by decide) e), HW.out.at_.base, by rw [hl1]; exact hn2, HW.out.at_.lenp⟩, Frm.trans (Mo := rmods r _ _) (Mo' := rmods r (.slice (some ⟨g, 0, none⟩) n c) VP) HW.out.frm (Frm.set _ _ _ _ (Or.inr (Or.inl rfl))) fun i hi => Or.inl hi, fun _ e => Or.inl e⟩
      have HNX := Lib.hid hNX
      clear hNX hset hx hat hfz hrow hrow' hkn hko hng
      go_wp2
      go_roundw
      case rel => exact ⟨k + 1, by omega, by go_num, HNX.out⟩
      case measure => simp [intOf]; omega
    · have hki : ¬ (k : Int) < (n : Int) := by omega
      obtain rfl : k = n := by omega
      have HE := Lib.hid (show R.mail.map older = oldL R.mail k by rw [← old_all, HN.out])
      clear hkn
      go_wp2
      go_end0
      exact ⟨_, _, rfl, by rw [HE.out]; exact HW.out⟩
def rrefuse (R : RN) (f t : Int) (s : ByteArray) : Bool := !twoB f t || decide (80000 < s.size) || decide (2000 ≤ R.mail.length)
def rsendR (R : RN) (f t : Int) (s : ByteArray) : RN := if rrefuse R f t s then R else { R with mail := R.mail ++ [⟨inc R.last, f, t, s, 0⟩], last := inc R.last }
def rsendN (R : RN) (f t : Int) (s : ByteArray) : Int := if rrefuse R f t s then 0 else inc R.last
/-- A message stored behind the others: what the region's append leaves. -/
theorem RAt.appended {w1 w2 : World} {v2 : Value} {l2 : List Ml} (h : RAt w B r VL VP R) (hB1 : Below w.heap.size w w1) (hR2 : MRow w2 B v2 l2) (hl2 : l2.length ≤ 2000) (hg : w1.grownBy w2 VL.ownBlock) (hs : ∀ k, v2.ownBlock = some k → VL.ownBlock = some k ∨ w1.heap.size ≤ k) :
    w2.cell? ⟨r, 0, none⟩ = some VL ∧ w2.cell? ⟨r, 1, none⟩ = some (.int .i64 R.last) ∧ w2.frozen? ⟨r, 0, none⟩ = false ∧ RW w (w2.setCell ⟨r, 0, none⟩ v2) B r VL VP v2 VP { R with mail := l2 } := by
  have h1 := h.later hB1
  have hne : VL.ownBlock ≠ some r := fun e => by obtain ⟨c, h2⟩ := row_heap h.rowL e; exact kinds_ne h.hb h2 (by decide) rfl
  have hb2 : w2.heap[r]? = w1.heap[r]? := hg.block r h1.lt (fun e => hne e.symm)
  have hb3 := hb2.trans h1.hb
  refine ⟨cell_of hb3, cell_of hb3, frozen_of hb3, ?_⟩
  have hp : ∀ k, VP.ownBlock = some k → w2.heap[k]? = w1.heap[k]? := fun k hk => hg.block k (World.ownsRow.lt h1.rowP k hk).2 (fun e => by
    obtain ⟨c, h2⟩ := row_heap h1.rowL e.symm
    obtain ⟨c', h3⟩ := row_heap h1.rowP hk
    exact kinds_ne h2 h3 (by decide) rfl)
  exact RW.ahead hB1 (h1.mail_ (Frm.of_grown hg fun k e => Or.inr (Or.inl e)) hb2 hp hR2 hl2 hs)
end
end Go.Proofs.Ytnjabhjcnkbgpaa

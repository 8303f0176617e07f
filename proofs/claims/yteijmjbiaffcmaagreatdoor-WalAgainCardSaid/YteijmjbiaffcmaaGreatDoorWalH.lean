/- Joined: WalSegs, WalOne, WalLaws, WalFew, WalAside. -/
import Derived.Test.YteijmjbiaffcmaaGreatDoorWalC
import Derived.Test.YteijmjbiaffcmaaGreatDoorWalF
/- What is read of a segment: its head, its whole frames, a torn tail. -/
set_option maxRecDepth 20000
set_option linter.unusedSimpArgs false
set_option linter.unusedVariables false
namespace Go.Proofs.YteijmjbiaffcmaaGreatDoor
open Go.RowKit Go.Maps Go.Shelf Go.Proofs.YteijmjbiaffcmaaGreatDoor.Vi Go.Proofs.YteijmjbiaffcmaaGreatDoor.Crc Go.Proofs.YteijmjbiaffcmaaGreatDoor.Fr Go.Proofs.YteijmjbiaffcmaaGreatDoor.Fi

theorem rest_tx (a q : List UInt8) : restB (tx (a ++ q)) a.length = tx q := by
  unfold restB
  have h := extract_tx (tx (a ++ q)) a.length q.length
  rw [tx_size, List.length_append, h, tx_data, List.drop_left, List.take_length]
theorem numF_enc' (z : Nat) (hz : z < 18446744073709551616) (q : List UInt8) : numF (tx (enc z ++ q)) = some (z, tx q) := by
  unfold numF
  rw [tx_data, getL_enc z 0 q (by omega) hz (by omega)]
  show some (z, restB _ _) = _
  rw [rest_tx]
theorem hd_body (f : Int) (k : Bool) (st : ByteArray) (h : rightB f k st = true) (hs : st.size ≤ 60000) : hdQ (tx (bodyH f k st)) = (f, k, st, true) := by
  have hb := rightB_in h
  obtain ⟨n, rfl⟩ : ∃ n : Nat, f = (n : Int) := ⟨f.toNat, by omega⟩
  have e0 : bodyH (n : Int) k st = enc n ++ (enc (if k then 1 else 0) ++ (enc st.size ++ st.data.toList)) := by
    unfold bodyH
    have e : ((n : Int)).toNat = n := by omega
    rw [e]
    cases k
    · rw [if_neg (by decide), if_neg (by decide), enc_small (n := 0) (by decide)]; rfl
    · rw [if_pos rfl, if_pos rfl, enc_small (n := 1) (by decide)]; rfl
  have e1 : smallQ (tx (enc n ++ (enc (if k then 1 else 0) ++ (enc st.size ++ st.data.toList)))) false 1099511627776 = ((n : Int), tx (enc (if k then 1 else 0) ++ (enc st.size ++ st.data.toList)), false) := by
    unfold smallQ
    rw [if_neg (by simp), numF_enc' n (by omega)]
    dsimp only
    rw [if_pos (by omega)]
  have e2 : smallQ (tx (enc (if k then 1 else 0) ++ (enc st.size ++ st.data.toList))) false 1 = ((if k then 1 else 0 : Int), tx (enc st.size ++ st.data.toList), false) := by
    unfold smallQ
    rw [if_neg (by simp), numF_enc' _ (by split <;> omega)]
    dsimp only
    cases k
    · rfl
    · rfl
  have hl : st.data.toList.length = st.size := by simp
  have e3 : textQ (tx (enc st.size ++ st.data.toList)) false = (st, tx [], false) := by
    unfold textQ
    rw [if_neg (by simp), numF_enc' st.size (by omega)]
    dsimp only
    rw [if_pos (by rw [tx_size]; omega)]
    have e4 : (tx st.data.toList).extract 0 st.size = st := by
      have h := extract_tx (tx st.data.toList) 0 st.size
      rw [Nat.zero_add] at h
      rw [h, tx_data, List.drop_zero, ← hl, List.take_length, tx_list]
    have e5 : restB (tx st.data.toList) st.size = tx [] := by
      have h := rest_tx st.data.toList []
      rw [List.append_nil, hl] at h
      exact h
    rw [e4, e5]
  unfold hdQ
  rw [e0, e1]
  dsimp only
  rw [e2]
  dsimp only
  rw [e3]
  dsimp only
  have e6 : ((if k then 1 else 0 : Int) == 1) = k := by cases k <;> rfl
  rw [e6, h]
  rfl
theorem step_seg {T : Nat → ByteArray} {n : Nat} {f : Int} {k : Bool} {st : ByteArray} {L : List (List UInt8)} {t : List UInt8} (acc : Nat × WS) (hT : T n = headB f k st ++ tx (frs L ++ t)) (hr : rightB f k st = true) (hs : st.size ≤ 60000) (hL : ∀ b ∈ L, b.length ≤ 70000) (ht : (getF t).w ≠ 0) :
    stepR T acc n = if k = true then (n, { acc.2 with fi := f, st := st, rc := txL L }) else if acc.1 = 0 ∨ f ≠ lastW acc.2 + 1 then acc else (acc.1, { acc.2 with rc := acc.2.rc ++ txL L }) := by
  have hbl := bodyH_len f k st (rightB_in hr).2 hs
  have e0 : (T n).data.toList = fr (bodyH f k st) ++ (frs L ++ t) := by
    rw [hT]
    unfold headB
    rw [if_pos hr, tx_app, tx_data]
  have e1 : getF (T n).data.toList = ⟨0, bodyH f k st, (fr (bodyH f k st)).length⟩ := by rw [e0, getF_whole _ _ (by omega)]
  have e2 : (Fr.scan ((T n).data.toList.drop (getF (T n).data.toList).len)).1 = L := by
    rw [e1, e0]
    dsimp only
    rw [List.drop_left, scan_frs L t hL, scan_stop ht]
    simp
  unfold stepR
  rw [e2, e1]
  dsimp only
  rw [hd_body f k st hr hs]
  dsimp only
  rw [if_neg (by decide)]
end Go.Proofs.YteijmjbiaffcmaaGreatDoor

/- A folder of one segment whose power stays: what is appended, synced, left by a crash, and read again. -/
set_option maxRecDepth 20000
set_option linter.unusedSimpArgs false
set_option linter.unusedVariables false
namespace Go.Proofs.YteijmjbiaffcmaaGreatDoor
open Go.RowKit Go.Maps Go.Shelf Go.Proofs.YteijmjbiaffcmaaGreatDoor.Vi Go.Proofs.YteijmjbiaffcmaaGreatDoor.Crc Go.Proofs.YteijmjbiaffcmaaGreatDoor.Fr Go.Proofs.YteijmjbiaffcmaaGreatDoor.Fi

/-- One segment, number 1, its file's bytes, how many are firm. -/
def oneS (r : Int) (q0 : Nat) (s : ByteArray) (k : Nat) : FS := ⟨r, [(seg 1, q0)], [(seg 1, q0)], [], true, false, 0, [⟨q0, s, k⟩]⟩
/-- A head's and texts' bytes. -/
def bytesL (l : List ByteArray) : ByteArray := aH1 ++ tx (frs (byL l))
theorem bytesL_nil : bytesL [] = aH1 := by
  apply ByteArray.ext
  apply Array.toList_inj.1
  show (aH1 ++ tx []).data.toList = _
  simp [tx]
theorem bytesL_app (l m : List ByteArray) : bytesL (l ++ m) = bytesL l ++ tx (frs (byL m)) := by
  unfold bytesL
  have e : byL (l ++ m) = byL l ++ byL m := by simp [byL]
  rw [e, frs_app, ← tx_app, ByteArray.append_assoc]
theorem q_one (r : Int) (q0 : Nat) (s : ByteArray) (k : Nat) : Quiet (oneS r q0 s k) := ⟨rfl, rfl, srt1 1 q0⟩
theorem one_look (q0 : Nat) : Fi.look [(seg 1, q0)] (seg 1) = some q0 := by kernel_rfl
theorem one_nums (r : Int) (q0 : Nat) (s : ByteArray) (k : Nat) : numsS (oneS r q0 s k) = [1] := by
  show numsL [seg 1] = [1]
  kernel_rfl
theorem one_used (r : Int) (q0 : Nat) (s : ByteArray) (k : Nat) : usedS (oneS r q0 s k) = s.size := by simp [usedS, szQ, filQ, oneS]
theorem one_open0 (r : Int) (hr : 8 ≤ r) (q0 : Nat) : openW (emptyS r) q0 = (0, oneS r q0 aH1 8, aW 1 ⟨#[]⟩ 1 [] 0) := by
  have e1 : openW (emptyS r) q0 = open3 0 (beginW (emptyS r) (aW 0 ⟨#[]⟩ 1 [] 0) true ⟨#[]⟩ q0) := by kernel_rfl
  have e2 := begin_q (S := emptyS r) (n := 1) (W := aW 0 ⟨#[]⟩ 1 [] 0) (k := true) (st := ⟨#[]⟩) (q := q0) (hd := aH1) ⟨rfl, rfl, List.Pairwise.nil⟩ rfl (by decide) rfl (by show 0 < 64; decide) (by intro f hf; cases hf) rfl (by rw [aH1_size]; decide) (by
    rw [aH1_size]
    show ((usedS ⟨r, [(seg 1, q0)], [], _, true, false, 0, [⟨q0, ⟨#[]⟩, 0⟩]⟩ : Nat) : Int) + 8 ≤ r
    have e' : ∀ c, usedS ⟨r, [(seg 1, q0)], [], c, true, false, 0, [⟨q0, ⟨#[]⟩, 0⟩]⟩ = 0 := fun c => by
      show szQ [⟨q0, ⟨#[]⟩, 0⟩] q0 + 0 = 0
      simp [szQ, filQ]
      rfl
    rw [e']; omega)
  rw [e1, e2]
  have e3 : newSeg (emptyS r) 1 q0 aH1 = oneS r q0 aH1 8 := by unfold newSeg; rw [aH1_size]; rfl
  rw [e3]
  unfold open3
  rw [if_neg (by simp)]
  dsimp only
  rw [one_nums]
  rfl
theorem one_app (r : Int) (q0 : Nat) (l : List ByteArray) (k : Nat) (fm : Int) (s : ByteArray) (hs : s.size ≤ 60000) :
    appendW (oneS r q0 (bytesL l) k) (aW 1 ⟨#[]⟩ 1 l fm) [s] = if r < ((bytesL l).size : Int) + ((tx (frs (byL [s]))).size : Int) then (15, oneS r q0 (bytesL l) k, aW 1 ⟨#[]⟩ 1 l fm) else (0, oneS r q0 (bytesL (l ++ [s])) k, aW 1 ⟨#[]⟩ 1 (l ++ [s]) fm) := by
  have hq := q_one r q0 (bytesL l) k
  have hok : okS (tx (seg 1)) = true := seg_ok
  have hl : Fi.look (oneS r q0 (bytesL l) k).now (nm (tx (seg 1))) = some q0 := by rw [nm_tx]; exact one_look q0
  have hseg : segW (aW 1 ⟨#[]⟩ 1 l fm) = tx (seg 1) := rfl
  unfold appendW
  rw [if_neg (show ¬ (aW 1 ⟨#[]⟩ 1 l fm).br = true from by simp [aW]), if_neg (by simp; omega), hseg]
  by_cases h : r < ((bytesL l).size : Int) + ((tx (frs (byL [s]))).size : Int)
  · have e1 : appendS (oneS r q0 (bytesL l) k) (tx (seg 1)) (tx (frs (byL [s]))) = (15, oneS r q0 (bytesL l) k) := by
      unfold appendS
      rw [find_q hq hok hl]
      dsimp only
      rw [one_used]
      exact if_pos h
    rw [e1, if_neg (by simp), if_pos h]
    rfl
  · have e1 := append_q (t := tx (frs (byL [s]))) (q := q0) (s := bytesL l) (k := k) hq hok hl (by simp [oneS, filQ]) (by rw [one_used]; show _ ≤ r; omega)
    have e2 : updS (oneS r q0 (bytesL l) k) q0 (bytesL l ++ tx (frs (byL [s]))) k = oneS r q0 (bytesL (l ++ [s])) k := by rw [bytesL_app]; simp [updS, updQ, oneS]
    rw [e1, e2, if_pos rfl, if_neg h]
    rfl
theorem one_settle (r : Int) (q0 : Nat) (s : ByteArray) (k : Nat) (l : List ByteArray) (fm : Int) : settleW (oneS r q0 s k) (aW 1 ⟨#[]⟩ 1 l fm) = (0, oneS r q0 s s.size, aW 1 ⟨#[]⟩ 1 l (l.length : Int)) := by
  have e1 := sync_q (n := tx (seg 1)) (q := q0) (s := s) (k := k) (q_one r q0 s k) seg_ok (by rw [nm_tx]; exact one_look q0) (by simp [oneS, filQ])
  have e2 : updS (oneS r q0 s k) q0 s s.size = oneS r q0 s s.size := by simp [updS, updQ, oneS]
  rw [e2] at e1
  unfold settleW
  have e3 : segW (aW 1 ⟨#[]⟩ 1 l fm) = tx (seg 1) := rfl
  rw [e3, e1, if_pos rfl]
  have e4 : lastW (aW 1 ⟨#[]⟩ 1 l fm) = (l.length : Int) := by show (1 : Int) + (l.length : Int) - 1 = _; omega
  rw [e4]
  rfl
theorem one_sync (r : Int) (q0 : Nat) (s : ByteArray) (k : Nat) (l : List ByteArray) (fm : Int) (hs : s.size ≤ 4000) (q : Nat) : syncW (oneS r q0 s k) (aW 1 ⟨#[]⟩ 1 l fm) q = (0, oneS r q0 s s.size, aW 1 ⟨#[]⟩ 1 l (l.length : Int)) := by
  unfold syncW
  rw [if_neg (show ¬ (aW 1 ⟨#[]⟩ 1 l fm).br = true from by simp [aW]), one_settle, if_neg (by simp)]
  have e1 := read_q (n := tx (seg 1)) (q := q0) (s := s) (k := s.size) (q_one r q0 s s.size) seg_ok (by rw [nm_tx]; exact one_look q0) (by simp [oneS, filQ])
  have e3 : segW (aW 1 ⟨#[]⟩ 1 l fm) = tx (seg 1) := rfl
  rw [e3]
  dsimp only
  rw [e1, if_pos hs]
theorem one_crash (r : Int) (q0 : Nat) (s : ByteArray) : crashS (oneS r q0 s s.size) [] = oneS r q0 s s.size := by
  have e : crashS (oneS r q0 s s.size) [] = { oneS r q0 s s.size with fil := cutQ [] 1 q0 [⟨q0, s, s.size⟩] } := rfl
  rw [e]
  unfold cutQ
  have e2 : filQ [⟨q0, s, s.size⟩] q0 = some ⟨q0, s, s.size⟩ := by simp [filQ]
  rw [e2]
  dsimp only
  have e3 : pickI [] 1 (s.size - s.size) = 0 := rfl
  have e4 : s.extract 0 (s.size + 0) = s := by
    have h := extract_tx s 0 s.size
    rw [Nat.zero_add] at h
    have hl : s.data.toList.length = s.size := by simp
    rw [Nat.add_zero, h, List.drop_zero, ← hl, List.take_length, tx_list]
  rw [e3, e4]
  simp [updQ, oneS]
theorem one_syncL (r : Int) (q0 : Nat) (s : ByteArray) (k : Nat) : syncL (oneS r q0 s k) [1] = (0, oneS r q0 s s.size) := by
  have e1 := sync_q (n := tx (seg 1)) (q := q0) (s := s) (k := k) (q_one r q0 s k) seg_ok (by rw [nm_tx]; exact one_look q0) (by simp [oneS, filQ])
  have e2 : updS (oneS r q0 s k) q0 s s.size = oneS r q0 s s.size := by simp [updS, updQ, oneS]
  rw [e2] at e1
  unfold syncL
  rw [e1, if_neg (by simp)]
  rfl
theorem one_text (r : Int) (q0 : Nat) (s : ByteArray) (k : Nat) : textS (oneS r q0 s k) 1 = s := by
  have e1 := read_q (n := tx (seg 1)) (q := q0) (s := s) (k := k) (q_one r q0 s k) seg_ok (by rw [nm_tx]; exact one_look q0) (by simp [oneS, filQ])
  unfold textS
  rw [e1]
theorem txL_byL (l : List ByteArray) : txL (byL l) = l := by
  unfold txL byL
  rw [List.map_map]
  refine (List.map_congr_left fun s _ => ?_).trans (List.map_id _)
  exact tx_list s
theorem one_read (r : Int) (q0 : Nat) (l : List ByteArray) (k : Nat) (hl : ∀ s ∈ l, s.size ≤ 70000) : readN (textS (oneS r q0 (bytesL l) k)) [1] newW = (1, aW 0 ⟨#[]⟩ 1 l 0) := by
  show stepR (textS (oneS r q0 (bytesL l) k)) (0, newW) 1 = _
  have hL : ∀ b ∈ byL l, b.length ≤ 70000 := fun b hb => by
    obtain ⟨s, hs, rfl⟩ := List.mem_map.1 hb
    have e : s.data.toList.length = s.size := by simp
    have := hl s hs
    omega
  rw [step_seg (f := 1) (k := true) (st := ⟨#[]⟩) (L := byL l) (t := []) (0, newW) (by rw [one_text, List.append_nil]; rfl) rfl (by decide) hL (by rw [getF_nil]; decide), if_pos rfl, txL_byL]
  rfl
def oneT (r : Int) (q0 q1 : Nat) (s h2 : ByteArray) : FS := ⟨r, [(seg 1, q0), (seg 2, q1)], [(seg 1, q0), (seg 2, q1)], [], true, false, 0, [⟨q0, s, s.size⟩, ⟨q1, h2, h2.size⟩]⟩
theorem headB_pos {f : Int} {k : Bool} {s : ByteArray} (h : rightB f k s = true) (hs : s.size ≤ 60000) : (headB f k s).size ≠ 0 ∧ (headB f k s).size ≤ 70200 := by
  unfold headB
  rw [if_pos h, tx_size]
  have h1 := fr_pos (bodyH f k s)
  have h2 := fr_len (bodyH f k s)
  have h3 := bodyH_len f k s (rightB_in h).2 hs
  have h4 := enc_len10 (bodyH f k s).length (by omega)
  omega
theorem one_open {r : Int} {q0 q1 : Nat} {l : List ByteArray} (k : Nat) (h : q0 < q1) (hl : ∀ s ∈ l, s.size ≤ 70000) (hn : l.length ≤ 1000000) (hr : ((bytesL l).size : Int) + 70200 ≤ r) :
    openW (oneS r q0 (bytesL l) k) q1 = (0, oneT r q0 q1 (bytesL l) (headB ((l.length : Int) + 1) false ⟨#[]⟩), aW 2 ⟨#[]⟩ 1 l (l.length : Int)) := by
  have hlw : lastW (aW 0 ⟨#[]⟩ 1 l (l.length : Int)) = (l.length : Int) := by show (1 : Int) + (l.length : Int) - 1 = _; omega
  have hright : rightB ((l.length : Int) + 1) false ⟨#[]⟩ = true := by
    unfold rightB
    rw [decide_eq_true (by omega), decide_eq_true (by omega)]
    rfl
  obtain ⟨hh, hhd⟩ : ∃ x, headB ((l.length : Int) + 1) false ⟨#[]⟩ = x := ⟨_, rfl⟩
  have hp := headB_pos hright (by decide)
  rw [hhd] at hp
  have hne : q0 ≠ q1 := by omega
  have e2 := begin_q (n := 2) (W := aW 0 ⟨#[]⟩ 1 l (l.length : Int)) (k := false) (st := ⟨#[]⟩) (q := q1) (hd := hh) (q_one r q0 (bytesL l) (bytesL l).size) (by unfold beginN; rw [one_nums]; rfl) (by decide) (by show Fi.look [(seg 1, q0)] (seg 2) = none; kernel_rfl) (by show 1 < 64; decide) (by intro f hf; have : f = ⟨q0, bytesL l, (bytesL l).size⟩ := List.mem_singleton.1 hf; subst this; exact hne) (by rw [hlw]; exact hhd) hp.1 (by
    have e : usedS (doS (addS (oneS r q0 (bytesL l) (bytesL l).size) q1) (.mk (seg 2) q1)) = (bytesL l).size := by
      show usedS ⟨r, [(seg 1, q0), (seg 2, q1)], [(seg 1, q0)], [] ++ [.mk (seg 2) q1], true, false, 0, [⟨q0, bytesL l, (bytesL l).size⟩, ⟨q1, ⟨#[]⟩, 0⟩]⟩ = _
      simp [usedS, szQ, filQ, hne]
      rfl
    rw [e]
    show _ ≤ r
    have := hp.2
    omega)
  have e3 : newSeg (oneS r q0 (bytesL l) (bytesL l).size) 2 q1 hh = oneT r q0 q1 (bytesL l) hh := by unfold newSeg oneT; rfl
  rw [e3] at e2
  have e4 : numsS (oneT r q0 q1 (bytesL l) hh) = [1, 2] := by
    show numsL [seg 1, seg 2] = [1, 2]
    kernel_rfl
  have e5 : firmW (aW 0 ⟨#[]⟩ 1 l 0) = aW 0 ⟨#[]⟩ 1 l (l.length : Int) := by
    unfold firmW
    have e : lastW (aW 0 ⟨#[]⟩ 1 l 0) = (l.length : Int) := by show (1 : Int) + (l.length : Int) - 1 = _; omega
    rw [e]; rfl
  unfold openW
  rw [one_nums, one_syncL, if_neg (by simp)]
  unfold open2
  dsimp only
  rw [one_nums, one_read r q0 l _ hl]
  show open3 1 (beginW (oneS r q0 (bytesL l) (bytesL l).size) (firmW (aW 0 ⟨#[]⟩ 1 l 0)) false ⟨#[]⟩ q1) = _
  rw [e5, e2, hhd]
  unfold open3
  rw [if_neg (by simp)]
  dsimp only
  rw [e4]
  rfl
end Go.Proofs.YteijmjbiaffcmaaGreatDoor

/- Contracts of the laws' prefix. -/
set_option maxRecDepth 20000
set_option linter.unusedSimpArgs false
set_option linter.unusedVariables false
namespace Go.Proofs.YteijmjbiaffcmaaGreatDoor
open Go.RowKit Go.Maps Go.Shelf Go.Proofs.YteijmjbiaffcmaaGreatDoor.Vi Go.Proofs.YteijmjbiaffcmaaGreatDoor.Crc Go.Proofs.YteijmjbiaffcmaaGreatDoor.Fr Go.Proofs.YteijmjbiaffcmaaGreatDoor.Fi

def prefB (b a : List ByteArray) (firm : Int) : Bool := decide (firm ≤ (b.length : Int)) && (decide (b.length ≤ a.length) && decide (b = a.take b.length))
theorem pref_bad {b a : List ByteArray} {firm : Int} {i : Nat} (hb : i < b.length) (ha : i < a.length) (h : b[i] ≠ a[i]) : prefB b a firm = false := by
  unfold prefB
  have : ¬ b = a.take b.length := fun e => h (by
    have e1 : (a.take b.length)[i]? = a[i]? := List.getElem?_take_of_lt hb
    rw [← e, List.getElem?_eq_getElem hb, List.getElem?_eq_getElem ha] at e1
    injection e1)
  rw [decide_eq_false this]
  simp
set_option maxHeartbeats 2000000 in
theorem prefix_is (vb va : Value) (lb la : List ByteArray) (firm : Int) (w : World) (hb : Ss w vb lb) (ha : Ss w va la) (z : Bool) (H : Hid (prefB lb la firm = z)) : Calls Tryz.prog 36 #[vb, va, .int .i64 firm] w fun e w' => e = .returned (.bool z) ∧ Below w.heap.size w w' := by
  have HB := Lib.hid hb
  have HA := Lib.hid ha
  have hlb : lb.length ≤ maxLen := by obtain ⟨a, c, -, h1, h2, -⟩ := hb; omega
  have hla : la.length ≤ maxLen := by obtain ⟨a, c, -, h1, h2, -⟩ := ha; omega
  obtain ⟨ab, cb, rfl⟩ := hb.slice
  obtain ⟨aa, ca, rfl⟩ := ha.slice
  obtain ⟨n, hn⟩ : ∃ n, lb.length = n := ⟨_, rfl⟩
  obtain ⟨m, hm⟩ : ∃ m, la.length = m := ⟨_, rfl⟩
  rw [hn] at HB hlb ⊢
  rw [hm] at HA hla ⊢
  unfold maxLen at hlb hla
  have HN := Lib.hid hn
  have HM := Lib.hid hm
  clear hb ha hn hm
  by_cases h1 : (n : Int) < firm
  · have hz := H.out
    unfold prefB at hz
    rw [decide_eq_false (by rw [HN.out]; omega)] at hz
    obtain rfl : false = z := hz
    go_enter Tryz.func36, Tryz.ntmps36
    go_wp2
    go_ret
    exact ⟨rfl, Below.refl _ _⟩
  · by_cases h2 : (m : Int) < (n : Int)
    · have hz := H.out
      unfold prefB at hz
      rw [decide_eq_false (p := lb.length ≤ la.length) (by rw [HN.out, HM.out]; omega)] at hz
      simp at hz
      subst hz
      go_enter Tryz.func36, Tryz.ntmps36
      go_wp2
      go_ret
      exact ⟨rfl, Below.refl _ _⟩
    · go_enter Tryz.func36, Tryz.ntmps36
      go_wp2
      go_loopg [7] n (fun g ii wr => ∃ i : Nat, i + g = n ∧ ii = .int .i64 (i : Int) ∧ Hid (lb.take i = la.take i) ∧ Below w.heap.size w wr)
      case atStart => exact ⟨0, by omega, rfl, Lib.hid rfl, Below.refl _ _⟩
      case round =>
        obtain ⟨i, hi, rfl, hpre, hbel⟩ := hrel
        have HBE := Lib.hid hbel
        cases gk with
        | zero =>
          obtain rfl : i = n := by omega
          have hlt : ¬ (i : Int) < (i : Int) := by omega
          have hz : true = z := by
            rw [← H.out]
            unfold prefB
            have e : lb = la.take lb.length := by
              have e1 := hpre.out
              rw [← HN.out] at e1
              rw [List.take_length] at e1
              exact e1
            rw [decide_eq_true (by rw [HN.out]; omega), decide_eq_true (p := lb.length ≤ la.length) (by rw [HN.out, HM.out]; omega), decide_eq_true e]
            rfl
          subst hz
          clear hbel hpre
          go_wp2
          go_ret
          exact ⟨rfl, HBE.out⟩
        | succ g =>
          have hlt : (i : Int) < (n : Int) := by omega
          have hltm : (i : Int) < (m : Int) := by omega
          have hib : i < lb.length := by rw [HN.out]; omega
          have hia : i < la.length := by rw [HM.out]; omega
          obtain ⟨bb, ob, rfl, -, cbx⟩ := (HB.out.below hbel).cell (by omega)
          obtain ⟨ba, oa, rfl, -, cax⟩ := (HA.out.below hbel).cell (by omega)
          have c1 := cbx i hib
          have c2 := cax i hia
          obtain ⟨x, hx⟩ : ∃ x, lb[i] = x := ⟨_, rfl⟩
          obtain ⟨y, hy⟩ : ∃ y, la[i] = y := ⟨_, rfl⟩
          rw [hx] at c1
          rw [hy] at c2
          have hiw : IntKind.i64.wrap ((i : Int) + 1) = (i : Int) + 1 := by rw [IntKind.wrap_i64]; omega
          clear cbx cax hbel
          by_cases hxy : x = y
          · subst hxy
            have HP := Lib.hid (show lb.take (i + 1) = la.take (i + 1) by
              rw [List.take_succ_eq_append_getElem hib, List.take_succ_eq_append_getElem hia, hpre.out, hx, hy])
            clear hx hy hpre
            go_wp2
            go_quiet (fail)
            go_wp2
            go_roundg g
            case measure => omega
            case rel => exact ⟨i + 1, by omega, by go_num, HP, by first | exact HBE.out | exact HBE.out.drew | exact below_drewN HBE.out _⟩
          · have hz := H.out
            rw [pref_bad hib hia (by rw [hx, hy]; exact hxy)] at hz
            subst hz
            have hne := str_ne hxy
            clear hx hy hpre hxy
            go_wp2
            go_quiet (fail)
            go_wp2
            try rw [Exit.noGoto_ret]
            go_ret
            exact ⟨rfl, by first | exact HBE.out | exact HBE.out.drew | exact below_drewN HBE.out _⟩
end Go.Proofs.YteijmjbiaffcmaaGreatDoor

/- Contracts of the laws' short and few. -/
set_option maxRecDepth 20000
set_option linter.unusedSimpArgs false
set_option linter.unusedVariables false
namespace Go.Proofs.YteijmjbiaffcmaaGreatDoor
open Go.RowKit Go.Maps Go.Shelf Go.Proofs.YteijmjbiaffcmaaGreatDoor.Vi Go.Proofs.YteijmjbiaffcmaaGreatDoor.Crc Go.Proofs.YteijmjbiaffcmaaGreatDoor.Fr Go.Proofs.YteijmjbiaffcmaaGreatDoor.Fi

def cutS (s : ByteArray) (n : Nat) : ByteArray := if n < s.size then s.extract 0 n else s
theorem cutS_size (s : ByteArray) (n : Nat) : (cutS s n).size ≤ n := by
  unfold cutS
  split
  · rw [ByteArray.size_extract]; omega
  · omega
theorem lshort_is (s t : ByteArray) (n : Nat) (m : Int) (w : World) (hm : m = (n : Int)) (hn : n ≤ 5000) (ht : Hid (cutS s n = t)) : Calls Tryz.prog 10 #[.string s, .int .i64 m] w fun e w' => e = .returned (.string t) ∧ w = w' := by
  by_cases h : n < s.size
  · have H := Lib.hid (show s.extract 0 n = t by rw [← ht.out]; exact (if_pos h).symm)
    subst hm
    go_enter Tryz.func10, Tryz.ntmps10
    go_wp2
    go_ret
    exact ⟨by rw [← H.out]; rfl, rfl⟩
  · have H := Lib.hid (show s = t by rw [← ht.out]; exact (if_neg h).symm)
    subst hm
    go_enter Tryz.func10, Tryz.ntmps10
    go_wp2
    go_ret
    exact ⟨by rw [← H.out]; rfl, rfl⟩
def fewT (l : List ByteArray) : List ByteArray := (l.take 6).map fun s => cutS s 3000
def fewTN (l : List ByteArray) (i : Nat) : List ByteArray := (l.take i).map fun s => cutS s 3000
theorem fewTN_succ {l : List ByteArray} {i : Nat} (h : i < l.length) : fewTN l (i + 1) = fewTN l i ++ [cutS l[i] 3000] := by
  unfold fewTN
  rw [List.take_succ_eq_append_getElem h, List.map_append]; rfl
theorem fewTN_len (l : List ByteArray) (i : Nat) : (fewTN l i).length ≤ i := by unfold fewTN; rw [List.length_map, List.length_take]; omega
theorem fewTN_all {l : List ByteArray} {i : Nat} (h : i = min l.length 6) : fewTN l i = fewT l := by
  unfold fewTN fewT
  congr 1
  by_cases hl : l.length ≤ 6
  · rw [h, List.take_of_length_le (by omega), List.take_of_length_le hl]
  · rw [h, show min l.length 6 = 6 by omega]
set_option maxHeartbeats 2000000 in
theorem few_is (va : Value) (la : List ByteArray) (w : World) (ha : Ss w va la) : Calls Tryz.prog 29 #[va] w fun e w' => ∃ u, e = .returned u ∧ Rec w' u (fewT la) ∧ (∀ k, u.ownBlock = some k → w.heap.size ≤ k) ∧ Below w.heap.size w w' := by
  have HA := Lib.hid ha
  have hla : la.length ≤ maxLen := by obtain ⟨a, c, -, h1, h2, -⟩ := ha; omega
  obtain ⟨aa, ca, rfl⟩ := ha.slice
  obtain ⟨m, hm⟩ : ∃ m, la.length = m := ⟨_, rfl⟩
  rw [hm] at HA hla ⊢
  unfold maxLen at hla
  have HM := Lib.hid hm
  obtain ⟨N, hN⟩ : ∃ N, min m 6 = N := ⟨_, rfl⟩
  have hN6 : N ≤ 6 ∧ N ≤ m ∧ (N = m ∨ N = 6) := by omega
  have HNN := Lib.hid (show N = min la.length 6 by rw [hm, hN])
  clear ha hm hN
  go_enter Tryz.func29, Tryz.ntmps29
  go_wp2
  go_loopg [3, 4] N (fun g ov ii wr => ∃ (i : Nat) (v : Value), i + g = N ∧ ii = .int .i64 (i : Int) ∧ ov = v ∧ Rec wr v (fewTN la i) ∧ Hid (∀ k, v.ownBlock = some k → w.heap.size ≤ k) ∧ Below w.heap.size w wr)
  case atStart => exact ⟨0, _, by omega, rfl, rfl, Rec.nil _, Lib.hid (fun k e => by cases e), Below.refl _ _⟩
  case round =>
    obtain ⟨i, v, hi, rfl, rfl, hR, hown, hbel⟩ := hrel
    have HBE := Lib.hid hbel
    have HR := Lib.hid hR
    obtain ⟨ra, rc, rfl⟩ := hR.slice
    cases gk with
    | zero =>
      obtain rfl : i = N := by omega
      have HF := Lib.hid (fewTN_all HNN.out)
      clear hbel hR
      rcases hN6.2.2 with h | h
      · have hlt : ¬ (i : Int) < (m : Int) := by omega
        clear hN6 h
        go_wp2
        go_ret
        exact ⟨_, rfl, by rw [← HF.out]; exact HR.out, hown.out, HBE.out⟩
      · by_cases hlt : (i : Int) < (m : Int)
        · have hl6 : ¬ (i : Int) < 6 := by omega
          clear hN6 h
          go_wp2
          go_ret
          exact ⟨_, rfl, by rw [← HF.out]; exact HR.out, hown.out, HBE.out⟩
        · clear hN6 h
          go_wp2
          go_ret
          exact ⟨_, rfl, by rw [← HF.out]; exact HR.out, hown.out, HBE.out⟩
    | succ g =>
      have hlt : (i : Int) < (m : Int) := by omega
      have hl6 : (i : Int) < 6 := by omega
      have hia : i < la.length := by rw [HM.out]; omega
      have him : i < m := by omega
      obtain ⟨ba, oa, rfl, -, cax⟩ := (HA.out.below hbel).cell (by omega)
      have c2 := cax i hia
      obtain ⟨y, hy⟩ : ∃ y, la[i] = y := ⟨_, rfl⟩
      rw [hy] at c2
      have hiw : IntKind.i64.wrap ((i : Int) + 1) = (i : Int) + 1 := by rw [IntKind.wrap_i64]; omega
      obtain ⟨t, ht⟩ : ∃ t, cutS y 3000 = t := ⟨_, rfl⟩
      have ks := lshort_is y t 3000 3000 wr rfl (by decide) (Lib.hid ht)
      have HS := Lib.hid (show fewTN la (i + 1) = fewTN la i ++ [t] by rw [fewTN_succ hia, hy, ht])
      have HLN := Lib.hid (show (fewTN la i).length ≤ 100000000 by have := fewTN_len la i; omega)
      obtain ⟨nn, hnn⟩ : ∃ nn, (fewTN la i).length = nn := ⟨_, rfl⟩
      rw [hnn] at HR hown
      simp only [hnn]
      clear cax hbel hR hN6 hy ht hnn
      go_wp2_with (first
        | (go_at_call 10; (with_reducible refine ks.mono ?_); rintro _ w2 ⟨rfl, rfl⟩; clear ks)
        | (at_builtin; refine wpList_rec rfl _ _ rfl (.slice ra nn rc) _ rfl t rfl HR.out HLN.out ?_))
      rintro v2 w2 hR2 hg2 - hs2
      have HR2 := Lib.hid (show Rec w2 v2 (fewTN la (i + 1)) by rw [HS.out]; exact hR2)
      have HB2 := Lib.hid (show Below w.heap.size w w2 from HBE.out.grown hg2 HBE.out.size (fun k hk => hown.out k hk))
      have HO2 := Lib.hid (show ∀ k, v2.ownBlock = some k → w.heap.size ≤ k from fun k hk => by
        rcases hs2 with h | ⟨q, h, hq⟩
        · exact hown.out k (h ▸ hk)
        · rw [h] at hk; injection hk with hk; subst hk
          exact Nat.le_trans HBE.out.size hq)
      obtain ⟨ra2, rc2, hv2⟩ := hR2.slice
      clear hR2 hg2 hs2
      go_wp2
      go_roundg g
      case measure => omega
      case rel => exact ⟨i + 1, v2, by omega, by go_num, rfl, HR2.out, HO2, HB2.out⟩
end Go.Proofs.YteijmjbiaffcmaaGreatDoor

/- A log beside a slice of texts of the law's own. -/
set_option maxRecDepth 20000
set_option linter.unusedSimpArgs false
set_option linter.unusedVariables false
namespace Go.Proofs.YteijmjbiaffcmaaGreatDoor
open Go.RowKit Go.Maps Go.Shelf Go.Proofs.YteijmjbiaffcmaaGreatDoor.Vi Go.Proofs.YteijmjbiaffcmaaGreatDoor.Crc Go.Proofs.YteijmjbiaffcmaaGreatDoor.Fr Go.Proofs.YteijmjbiaffcmaaGreatDoor.Fi

/-- A slice's block is none of a log's. -/
def Off (u : Value) (b : Nat) (S : FS) (L : Lay) (a : Nat) (v : Value) : Prop := ∀ k, u.ownBlock = some k → ¬ wmods b S L a v k
section
variable {w0 w w' : World} {b a : Nat} {S S' : FS} {L L' : Lay} {W W' : WS} {v v' u u' : Value} {xs : List ByteArray}
/-- The law's slice has been appended to: the log stands. -/
theorem LAt.aside (h : LAt w0 w b S L a W v) (hu : Off u b S L a v) (hg : w.grownBy w' u.ownBlock) (h1 : Ones w w') (hb : Below w0.heap.size w0 w') (hlo : ∀ w'', Below w0.heap.size w' w'' → Glob w'') : LAt w0 w' b S L a W v := by
  have hk : ∀ k, wmods b S L a v k → w'.heap[k]? = w.heap[k]? := fun k hm => hg.block k (h.log.at_.room hm) (fun e => hu k e.symm hm)
  exact ⟨⟨⟨⟨FsAt.aside h.log.at_.dir.at_ (fun k hm => hk k (Or.inl hm)) h1, h.log.at_.dir.bn, h.log.at_.dir.whole⟩, (hk a (Or.inr (Or.inl rfl))).trans h.log.at_.cell, h.log.at_.rcs.of fun k e => hk k (Or.inr (Or.inr e))⟩, h.log.lo, hb.size, hlo⟩, hb⟩
/-- Behind an append the slice's block is none of the log's still. -/
theorem Off.grown (h : WalAt w b S L a W v) (hu : Off u b S L a v) (hs : u'.ownBlock = u.ownBlock ∨ ∃ q, u'.ownBlock = some q ∧ w.heap.size ≤ q) : Off u' b S L a v := fun k hk hm => by
  rcases hs with e | ⟨q, e, hq⟩
  · exact hu k (e ▸ hk) hm
  · rw [e] at hk
    injection hk with hk
    subst hk
    have := h.room hm
    omega
/-- The log has gone on: the slice stands, and is none of the log's. -/
theorem Off.went (hu : Off u b S L a v) (hr : Rec w u xs) (k : WWent w w' b S S' L L' a W W' v v') : Rec w' u xs ∧ Off u b S' L' a v' :=
  ⟨hr.of fun i hi => by
    obtain ⟨c, e⟩ := hr.heap hi
    exact k.frm.block i (some_lt e) (hu i hi), fun i hi hm => by
    obtain ⟨c, e⟩ := hr.heap hi
    have hl := some_lt e
    rcases k.sub i hm with h | h
    · exact hu i hi h
    · omega⟩
theorem Off.nil : Off (.slice none 0 0) b S L a v := fun k e => by cases e
end
theorem frs_size (l : List ByteArray) (hl : ∀ s ∈ l, s.size ≤ 300) : (frs (byL l)).length ≤ 314 * l.length := by
  induction l with
  | nil => exact Nat.le_refl _
  | cons s l ih =>
    have h1 := ih fun t ht => hl t (List.mem_cons_of_mem _ ht)
    have h2 := hl s List.mem_cons_self
    have e : byL (s :: l) = s.data.toList :: byL l := rfl
    rw [e, frs_cons, List.length_append, List.length_cons, fr_len]
    have h3 : s.data.toList.length = s.size := by simp
    have h4 := enc_len10 s.data.toList.length (by omega)
    omega
theorem bytesL_size (l : List ByteArray) (hl : ∀ s ∈ l, s.size ≤ 300) : (bytesL l).size ≤ 8 + 314 * l.length := by
  unfold bytesL
  rw [ByteArray.size_append, aH1_size, tx_size]
  have := frs_size l hl
  omega
theorem one_big (r : Int) (q0 : Nat) (s : ByteArray) (k : Nat) (l : List ByteArray) (fm : Int) (g : ByteArray) (hg : 60000 < g.size) : appendW (oneS r q0 s k) (aW 1 ⟨#[]⟩ 1 l fm) [g] = (11, oneS r q0 s k, aW 1 ⟨#[]⟩ 1 l fm) := by
  unfold appendW
  rw [if_neg (show ¬ (aW 1 ⟨#[]⟩ 1 l fm).br = true from by simp [aW]), if_pos (by simp; omega)]
theorem prefB_self (l : List ByteArray) : prefB l l (l.length : Int) = true := by
  unfold prefB
  rw [List.take_length]
  simp
end Go.Proofs.YteijmjbiaffcmaaGreatDoor

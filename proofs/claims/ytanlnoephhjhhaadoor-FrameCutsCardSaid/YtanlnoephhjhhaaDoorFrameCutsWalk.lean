/- The walk of law FrameCuts: it returns true and turns nothing that was there. -/
import Derived.Test.YtanlnoephhjhhaaDoorFrameBackWalk
import Derived.Test.YtanlnoephhjhhaaDoorBytesOf
namespace Go.Proofs.YtanlnoephhjhhaaDoor.frameCuts
open Go.RowKit Go.Proofs.YtanlnoephhjhhaaDoor Go.Proofs.YtanlnoephhjhhaaDoor.Vi Go.Proofs.YtanlnoephhjhhaaDoor.Crc Go.Proofs.YtanlnoephhjhhaaDoor.Fr Go.Proofs.YtanlnoephhjhhaaDoor.frameBack

/-- The bodies that are taken: at most twenty, of a hundred bytes at most. -/
def cutL (l : List ByteArray) : List ByteArray := (l.take 20).map fun s => cutB s 100
theorem cutL_len (l : List ByteArray) : (cutL l).length = min 20 l.length := by unfold cutL; simp
theorem cutL_size (l : List ByteArray) : ∀ s ∈ cutL l, s.size ≤ 100 := by
  intro s hs
  obtain ⟨x, _, rfl⟩ := List.mem_map.1 hs
  exact (cutB_size x 100).1
theorem cutL_get (l : List ByteArray) (k : Nat) (h : k < (cutL l).length) (h' : k < l.length) : (cutL l)[k] = cutB l[k] 100 := by
  refine (List.getElem_map _).trans ?_
  rw [List.getElem_take]
/-- Where the first k frames begin. -/
def beginsL (L : List (List UInt8)) (k : Nat) : List Int := (List.range k).map fun j => ((Fr.start L j : Nat) : Int)
theorem beginsL_len (L : List (List UInt8)) (k : Nat) : (beginsL L k).length = k := by unfold beginsL; simp
theorem beginsL_snoc (L : List (List UInt8)) (k : Nat) : beginsL L (k + 1) = beginsL L k ++ [((Fr.start L k : Nat) : Int)] := by unfold beginsL; rw [List.range_succ, List.map_append]; rfl
theorem beginsL_get (L : List (List UInt8)) (k j : Nat) (h : j < (beginsL L k).length) : (beginsL L k)[j] = ((Fr.start L j : Nat) : Int) := (List.getElem_map _).trans (by rw [List.getElem_range])
/-- Whether K is 0 or where one of the first i frames ends. -/
def edgeB (L : List (List UInt8)) (K i : Nat) : Bool := decide (K = 0) || (List.range i).any fun t => decide (Fr.start L (t + 1) = K)
theorem edgeB_zero (L : List (List UInt8)) (K : Nat) : edgeB L K 0 = decide (K = 0) := by simp [edgeB]
theorem edgeB_succ (L : List (List UInt8)) (K i : Nat) : edgeB L K (i + 1) = (edgeB L K i || decide (Fr.start L (i + 1) = K)) := by
  unfold edgeB; rw [List.range_succ, List.any_append]; simp [Bool.or_assoc]
theorem edgeB_all (L : List (List UInt8)) (K j : Nat) (hj : j ≤ L.length) (h1 : Fr.start L j ≤ K) (h2 : j < L.length → K < Fr.start L (j + 1)) : edgeB L K L.length = decide (K = Fr.start L j) := by
  by_cases e : K = Fr.start L j
  · rw [decide_eq_true e]
    unfold edgeB
    rw [Bool.or_eq_true]
    by_cases h0 : j = 0
    · subst h0; exact Or.inl (by simp [e, start_zero])
    · refine Or.inr (List.any_eq_true.2 ⟨j - 1, List.mem_range.2 (by omega), ?_⟩)
      rw [show j - 1 + 1 = j by omega]; simp [e]
  · rw [decide_eq_false e]
    unfold edgeB
    rw [Bool.or_eq_false_iff]
    have hpos : ∀ i, i < j → Fr.start L (i + 1) ≤ Fr.start L j := fun i hi => start_mono L hi hj
    refine ⟨?_, List.any_eq_false.2 fun i hi => ?_⟩
    · simp only [decide_eq_false_iff_not]
      intro h0
      have : Fr.start L j = 0 := by omega
      exact e (by omega)
    · have hi := List.mem_range.1 hi
      simp only [decide_eq_true_eq]
      intro h0
      by_cases hij : i < j
      · have := hpos i hij; omega
      · have h3 := h2 (by omega)
        have := start_mono L (show j + 1 ≤ i + 1 by omega) hi
        omega
/-- Cut off at K, where j frames are whole. -/
theorem cut_at (L : List (List UInt8)) (hL : ∀ b ∈ L, b.length ≤ 70000) (K j : Nat) (hj : j ≤ L.length) (h1 : Fr.start L j ≤ K) (h2 : j < L.length → K < Fr.start L (j + 1)) (hK : K ≤ (frs L).length) :
    scan ((frs L).take K) = (L.take j, Fr.start L j, if K = Fr.start L j then 1 else 2) := by
  by_cases h : j < L.length
  · exact scan_cut L hL j K h h1 (h2 h)
  · obtain rfl : j = L.length := by omega
    rw [start_all] at h1 ⊢
    obtain rfl : K = (frs L).length := by omega
    rw [List.take_length, scan_whole L hL, if_pos rfl, List.take_length]

set_option maxRecDepth 50000 in
set_option maxHeartbeats 16000000 in
theorem walk (a0 : Option Addr) (n0 c0 : Nat) (at_ tn : Int) (w : World) (h0 : ArgStrs w a0 n0 c0) (hat : -9223372036854775808 ≤ at_ ∧ at_ ≤ 9223372036854775807) (htn : 0 ≤ tn ∧ tn ≤ 255) (ht : Tab w) : Calls Tryd.prog 7 #[.slice a0 n0 c0, .int .i64 at_, .int .u8 tn] w fun e w' => e = .returned (.bool true) ∧ Below w.heap.size w w' := by
  have hA := awake_any w ht
  have HT := Lib.hid ht
  obtain ⟨l, hln, hls, hlm⟩ : ∃ l : List ByteArray, l.length = n0 ∧ (0 < n0 → Ss w (.slice a0 n0 c0) l) ∧ n0 ≤ maxLen := by
    rcases h0 with rfl | ⟨b, off, li, e1, e2, e3, e4, e5, e6⟩
    · exact ⟨[], rfl, fun h => absurd h (Nat.lt_irrefl _), Nat.zero_le _⟩
    · subst e1 e2
      exact ⟨li, rfl, fun h => ⟨_, _, rfl, e3, e4, Or.inr ⟨b, off, rfl, World.block_lt_of_cell? w _ (e5 0 h), e5⟩⟩, by omega⟩
  unfold maxLen at hlm
  obtain ⟨C, hC⟩ : ∃ C, cutL l = C := ⟨_, rfl⟩
  have hCl : C.length = min 20 n0 := by rw [← hC, cutL_len, hln]
  have hCs : ∀ s ∈ C, s.size ≤ 100 := by rw [← hC]; exact cutL_size l
  have hCs3 : ∀ s ∈ C, s.size ≤ 300 := fun s h => Nat.le_trans (hCs s h) (by omega)
  have HCS := Lib.hid hCs3
  have HCS1 := Lib.hid hCs
  have hC20 : C.length ≤ 20 := by omega
  have HSTR := Lib.hid (fun (i : Nat) (h : i < C.length) => show ∃ (g off : Nat) (x : ByteArray), a0 = some ⟨g, off, none⟩ ∧ cutB x 100 = C[i] ∧ ∀ u, Below w.heap.size w u → u.cell? ⟨g, off + i, none⟩ = some (.string x) by
    have hi : i < l.length := by omega
    obtain ⟨g, off, e1, -, e3⟩ := (hls (by omega)).cell (by omega)
    refine ⟨g, off, l[i], e1, ?_, fun u hu => ?_⟩
    · subst hC; exact (cutL_get l i h hi).symm
    · have hc := e3 i hi
      have hg := World.block_lt_of_cell? w _ hc
      rw [hu.cell (p := ⟨g, off + i, none⟩) hg]; exact hc)
  have hput := fun (k : Nat) (hk : k < C.length) w ht => put_yes C[k] _ w (by have := hCs _ (List.getElem_mem hk); omega) ht (Lib.hid (rfl : tx (fr C[k].data.toList) = _))
  have HPUT := Lib.hid hput
  have hn0 : (C.length : Int) ≤ (n0 : Int) := by omega
  have HCL := Lib.hid hCl
  clear h0 ht hls hC hCs hCs3 hput hCl
  go_enter Tryd.func7, Tryd.ntmps7
  go_wp2_with (first
    | (go_at_call 10; (with_reducible refine hA.mono ?_); rintro e w1 ⟨rfl, hb1⟩))
  have HB1 := Lib.hid hb1
  have hw01 := hb1.size
  clear hb1 hA
  go_loopw [8, 9, 10, 11, 12] (fun m x ss es i wr => ∃ k : Nat, k ≤ C.length ∧ i = .int .i64 (k : Int) ∧ x = .string (tx (frs (byL (C.take k)))) ∧ SRow wr w1.heap.size m (C.take k) ∧ IRow wr w1.heap.size ss (beginsL (byL C) k) ∧ IRow wr w1.heap.size es (endsL (byL C) k) ∧ Apart m ss ∧ Apart m es ∧ Apart ss es ∧ Below w1.heap.size w1 wr) (fun _ _ _ _ i _ => C.length - (intOf i).toNat)
  case atStart => exact ⟨0, by omega, rfl, rfl, SRow.nil _ _, IRow.nil _ _, IRow.nil _ _, Apart.nil _, Apart.nil _, Apart.nil _, Below.refl _ _⟩
  case round =>
    obtain ⟨k, hk, rfl, rfl, hM, hB, hE, p1, p2, p3, hbel⟩ := hrel
    by_cases hlt : k < C.length
    · have hlt2 : (k : Int) < (n0 : Int) := by omega
      have hlt3 : (k : Int) < 20 := by omega
      obtain ⟨g, off, x, rfl, hcx, hcell0⟩ := HSTR.out k hlt
      have hck := hcell0 wr (HB1.out.trans (hbel.mono hw01))
      have ksh := fun w => short_is x C[k] 100 100 w rfl (by omega) hcx
      have kp := HPUT.out k hlt
      have HF : Hid (tx (frs (byL (C.take (k + 1)))) = tx (frs (byL (C.take k))) ++ tx (fr C[k].data.toList)) := by
        show _ = _
        rw [byL_snoc C k hlt, frs_app, tx_app]
        simp [frs]
      have hsz := start_take C k
      have hsz2 : (tx (frs (byL (C.take k)))).size + (tx (fr C[k].data.toList)).size = Fr.start (byL C) (k + 1) := by
        rw [← start_take, HF.out]; simp
      have hsl := start_le (byL C) (byL_size HCS.out) (k + 1) (by rw [byL_length]; omega)
      have HES := Lib.hid (endsL_snoc (byL C) k)
      have HBS := Lib.hid (beginsL_snoc (byL C) k)
      have HTK : Hid (C.take (k + 1) = C.take k ++ [C[k]]) := List.take_succ_eq_append_getElem hlt
      obtain ⟨SB, hSB⟩ : ∃ n, Fr.start (byL C) k = n := ⟨_, rfl⟩
      obtain ⟨SE, hSE⟩ : ∃ n, Fr.start (byL C) (k + 1) = n := ⟨_, rfl⟩
      rw [hSE] at hsz2 hsl HES
      rw [hSB] at hsz HBS
      have hIe := endsL_len (byL C) k
      have hIb := beginsL_len (byL C) k
      have hIm : (C.take k).length = k := by rw [List.length_take]; omega
      generalize tx (frs (byL (C.take k))) = X at *
      generalize tx (fr C[k].data.toList) = Z at *
      generalize C[k] = y at *
      have hszi : (SB : Int) + (Z.size : Int) = (SE : Int) := by omega
      have hszn : SB + Z.size ≤ 9223372036854775807 := by omega
      have HB := Lib.hid hbel
      have hT := HT.out.below (HB1.out.trans (hbel.mono hw01)) HT.out.room
      have hw1r := hbel.size
      obtain ⟨am, cm, rfl⟩ := hM.slice
      obtain ⟨ab, cb, rfl⟩ := hB.slice
      obtain ⟨ae, ce, rfl⟩ := hE.slice
      rw [hIm] at hM p1 p2 ⊢
      rw [hIb] at hB p1 p3 ⊢
      rw [hIe] at hE p2 p3 ⊢
      clear hbel hsz2 hSB hSE hcell0 hcx
      go_wp2_with (first
        | (go_at_call 15; (with_reducible refine (ksh _).mono ?_); rintro e w3 ⟨rfl, rfl⟩)
        | (go_at_call 13; (with_reducible refine (kp _ hT).mono ?_); rintro e w4 ⟨rfl, hb4⟩; have hM4 := hM.later hb4; have hB4 := hB.later hb4; have hE4 := hE.later hb4; have hw4 := Nat.le_trans hw1r hb4.size)
        | (at_builtin; refine wpList_irow rfl _ _ rfl w1.heap.size (.slice ab k cb) (beginsL (byL C) k) rfl (SB : Int) rfl hB4 hw4 (by omega) ?_))
      intro v5 w5 hB5 hb5 G5
      obtain ⟨hM5, p1b⟩ := G5.keep hM4 p1
      obtain ⟨hE5, p3b⟩ := G5.keep hE4 p3.symm
      obtain ⟨ab5, cb5, rfl⟩ := hB5.slice
      have hw5 := Nat.le_trans hw4 (show w4.heap.size ≤ w5.heap.size from hb5.size)
      have hIb5 : (beginsL (byL C) k ++ [(SB : Int)]).length = k + 1 := by rw [List.length_append, hIb]; rfl
      rw [hIb5] at hB5 p1b p3b ⊢
      have HB5 := Lib.hid ((bel_next HB.out hb4).trans hb5)
      clear G5 hb5 hb4 hM4 hE4 hB4 p1 p3 hT hM hB hE hIb5
      go_wp2_with (first
        | (at_builtin; refine wpList_srow rfl _ _ rfl w1.heap.size (.slice am k cm) (C.take k) rfl y rfl hM5 hw5 (by omega) ?_))
      intro v6 w6 hM6 hb6 G6
      obtain ⟨hB6, p1c⟩ := G6.keep hB5 p1b.symm
      obtain ⟨hE6, p2c⟩ := G6.keep hE5 p2.symm
      obtain ⟨am6, cm6, rfl⟩ := hM6.slice
      have hw6 := Nat.le_trans hw5 (show w5.heap.size ≤ w6.heap.size from hb6.size)
      have hIm6 : (C.take k ++ [y]).length = k + 1 := by rw [List.length_append, hIm]; rfl
      rw [hIm6] at hM6 p1c p2c ⊢
      have HB6 := Lib.hid (HB5.out.trans hb6)
      clear G6 hb6 hM5 hE5 hB5 p1b p2 HB5 hIm6
      go_wp2_with (first
        | (at_builtin; refine wpList_irow rfl _ _ rfl w1.heap.size (.slice ae k ce) (endsL (byL C) k) rfl (SE : Int) rfl hE6 hw6 (by omega) ?_))
      intro v7 w7 hE7 hb7 G7
      obtain ⟨hB7, p3c⟩ := G7.keep hB6 p3b.symm
      obtain ⟨hM7, p2d⟩ := G7.keep hM6 p2c.symm
      have HB7 := Lib.hid (HB6.out.trans hb7)
      have HE7 := Lib.hid hE7
      have HM7 : Hid (SRow w7 w1.heap.size (.slice am6 (k + 1) cm6) (C.take k ++ [y])) := hM7
      have HBB7 : Hid (IRow w7 w1.heap.size (.slice ab5 (k + 1) cb5) (beginsL (byL C) k ++ [(SB : Int)])) := hB7
      have HP1 := Lib.hid p1c.symm
      have HP2 := Lib.hid p2d
      have HP3 := Lib.hid p3c
      clear G7 hb7 hM6 hE6 hB6 p3b p2c HB6 hE7 hM7 hB7 p1c p2d p3c
      go_wp2
      go_roundw
      case rel => exact ⟨k + 1, by omega, by go_num, by rw [HF.out], by rw [HTK.out]; exact HM7.out, by rw [HBS.out]; exact HBB7.out, by rw [HES.out]; exact HE7.out, HP1.out, HP2.out, HP3.out, HB7.out⟩
      case measure => simp [intOf]; omega
    · have hend : ¬ (k : Int) < (n0 : Int) ∨ ((k : Int) < (n0 : Int) ∧ ¬ (k : Int) < 20) := by
        have := HCL.out
        omega
      obtain rfl : k = C.length := by omega
      obtain ⟨w3, hw3⟩ : ∃ x, x = wr := ⟨_, rfl⟩
      subst hw3
      rw [List.take_length] at hM ⊢
      have hB0 := HB1.out.trans (hbel.mono hw01)
      have hw0r := hB0.size
      obtain ⟨L, hL⟩ : ∃ L, byL C = L := ⟨_, rfl⟩
      have hLl : L.length = C.length := by rw [← hL, byL_length]
      have hLs : ∀ b ∈ L, b.length ≤ 100 := by rw [← hL]; exact byL_size HCS1.out
      have hLs7 : ∀ b ∈ L, b.length ≤ 70000 := fun b hb => Nat.le_trans (hLs b hb) (by omega)
      have HLS := Lib.hid (fun b hb => Nat.le_trans (hLs b hb) (show 100 ≤ 127 by omega))
      have hLs3 : ∀ b ∈ L, b.length ≤ 300 := fun b hb => Nat.le_trans (hLs b hb) (by omega)
      have hTX : ∀ j, txL (L.take j) = C.take j := fun j => by
        rw [← hL, ← byL_take]
        unfold txL byL
        rw [List.map_map]
        conv => rhs; rw [← List.map_id (C.take j)]
        exact List.map_congr_left fun s _ => tx_list s
      rw [hL] at hB hE ⊢
      obtain ⟨N, hN⟩ : ∃ N, (frs L).length = N := ⟨_, rfl⟩
      have hN2 : N ≤ 6200 := by
        have h1 := start_le L hLs3 L.length (Nat.le_refl _)
        rw [start_all, hN] at h1; omega
      have hSz : (tx (frs L)).size = N := by rw [tx_size]; exact hN
      obtain ⟨am, cm, rfl⟩ := hM.slice
      obtain ⟨ab, cb, rfl⟩ := hB.slice
      obtain ⟨ae, ce, rfl⟩ := hE.slice
      rw [beginsL_len] at hB ⊢
      rw [endsL_len] at hE ⊢
      have HE := Lib.hid (fun (j : Nat) (h : j < C.length) => show ∃ g, ae = some ⟨g, 0, none⟩ ∧ g < w3.heap.size ∧ w3.cell? ⟨g, j, none⟩ = some (.int .i64 ((Fr.start L (j + 1) : Nat) : Int)) by
        have hl0 : 0 < (endsL L C.length).length := by rw [endsL_len]; omega
        obtain ⟨g, e1, -, e3, e4⟩ := hE.cell hl0
        have := e4 j (by rw [endsL_len]; exact h)
        rw [endsL_get] at this
        exact ⟨g, e1, e3, this⟩)
      have HBG := Lib.hid (fun (j : Nat) (h : j < C.length) => show ∃ g, ab = some ⟨g, 0, none⟩ ∧ g < w3.heap.size ∧ w3.cell? ⟨g, j, none⟩ = some (.int .i64 ((Fr.start L j : Nat) : Int)) by
        have hl0 : 0 < (beginsL L C.length).length := by rw [beginsL_len]; omega
        obtain ⟨g, e1, -, e3, e4⟩ := hB.cell hl0
        have := e4 j (by rw [beginsL_len]; exact h)
        rw [beginsL_get] at this
        exact ⟨g, e1, e3, this⟩)
      obtain ⟨K, hKN, hKp, hKn⟩ := place at_ (N + 1) (by omega)
      have hcN : ((N + 1 : Nat) : Int) = (N : Int) + 1 := by omega
      rw [hcN] at hKp hKn
      have hNwrap : (N : Int) + 1 ≤ 6201 := by omega
      have hsign : (0 ≤ at_ ∧ at_ % ((N : Int) + 1) = (K : Int)) ∨ (at_ < 0 ∧ (at_ + 1).tmod ((N : Int) + 1) = -(K : Int)) := by
        by_cases h : 0 ≤ at_
        · exact Or.inl ⟨h, hKp h⟩
        · exact Or.inr ⟨by omega, hKn (by omega)⟩
      have HL7 := Lib.hid hLs7
      have HTX := Lib.hid hTX
      have HNN := Lib.hid hN
      have HMM := Lib.hid hM
      have HB3 := Lib.hid hB0
      have HT3 := Lib.hid (HT.out.below hB0 HT.out.room)
      obtain ⟨S, hS⟩ : ∃ S, tx (frs L) = S := ⟨_, rfl⟩
      have HSS := Lib.hid hS
      rw [hS] at hSz ⊢
      clear hKp hKn hcN hL hLs hLs3 hLs7 hTX hN hM hB hE hB0 hbel p1 p2 p3 hk hlt HSTR HPUT hS
      rcases hend with hend | ⟨hend, hend2⟩
      · rcases hsign with ⟨hs1, hs2⟩ | ⟨hs1, hs2⟩
        · skip
          go_wp2
          go_loop [17] (fun b => ∃ j : Nat, b = .int .i64 (j : Int) ∧ j ≤ C.length ∧ Hid (Fr.start L j ≤ K)) (fun b => C.length - (intOf b).toNat)
          case atStart => exact ⟨0, rfl, Nat.zero_le _, Lib.hid (Nat.zero_le _)⟩
          case round =>
            obtain ⟨j, rfl, hj, hjK⟩ := hrel
            by_cases hjl : j < C.length
            · have hjli : (j : Int) < (C.length : Int) := by omega
              obtain ⟨g, e3, hg, hcell⟩ := HE.out j hjl
              cases e3
              by_cases hst : Fr.start L (j + 1) ≤ K
              · have hsti : ((Fr.start L (j + 1) : Nat) : Int) ≤ (K : Int) := by omega
                have HST := Lib.hid hst
                obtain ⟨e2, he2⟩ : ∃ e, Fr.start L (j + 1) = e := ⟨_, rfl⟩
                rw [he2] at hcell hsti
                clear he2 hst
                go_wp2
                go_round
                case rel => exact ⟨j + 1, by go_num, by omega, HST⟩
                case measure => simp [intOf]; omega
              · have hsti : ¬ ((Fr.start L (j + 1) : Nat) : Int) ≤ (K : Int) := by omega
                have HNL := Lib.hid hst
                have hhi : j < L.length → K < Fr.start L (j + 1) := fun h => by omega
                have hcut := cut_at L HL7.out K j (by omega) hjK.out hhi (by rw [HNN.out]; omega)
                have hex : S.extract 0 K = tx ((frs L).take K) := by rw [← HSS.out, tx_part]; simp
                obtain ⟨U, hU⟩ : ∃ U, tx ((frs L).take K) = U := ⟨_, rfl⟩
                rw [hU] at hex
                have hEA := edgeB_all L K j (by omega) hjK.out hhi
                rw [hLl] at hEA
                obtain ⟨ST, hST⟩ : ∃ st : Nat, (if K = Fr.start L j then 1 else 2) = st := ⟨_, rfl⟩
                rw [hST] at hcut
                have kS1 := fun w ht => scan_is ((frs L).take K) (C.take j) ((Fr.start L j : Nat) : Int) (ST : Int) w (by rw [List.length_take, HNN.out]; omega) ht (by show txL _ = _; rw [hcut]; exact HTX.out j) (by show _ = _; rw [hcut]) (by show _ = _; rw [hcut])
                rw [hU] at kS1
                obtain ⟨vh, ⟨hh1, hh2⟩, Sh⟩ := HMM.out.cutHead j hj
                have htl : (C.take j).length = j := by rw [List.length_take]; omega
                have q1 := fun v1 v2 w (h1 : Ss w v1 (C.take j)) (h2 : Ss w v2 (C.take j)) => same_is v1 v2 (C.take j) (C.take j) w h1 h2
                rw [sameS_self] at q1
                have hKNi : (K : Int) ≤ (N : Int) := by omega
                obtain ⟨J, hJ⟩ : ∃ J, Fr.start L j = J := ⟨_, rfl⟩
                have hJK := hjK.out
                rw [hJ] at kS1 hJK hEA hST
                have hJKi : ¬ (K : Int) < (J : Int) := by omega
                have hK0 : ((K : Int) == 0) = decide (K = 0) := by
                  by_cases h : K = 0
                  · subst h; rfl
                  · rw [decide_eq_false h]; simp; exact h
                have HEA := Lib.hid hEA
                clear hcut hU hhi hEA
                go_wp2_with (first
                  | (go_at_call 18; (with_reducible refine (kS1 _ HT3.out).mono ?_); rintro e w5 ⟨v5, rfl, hR5, hb5⟩; obtain ⟨a5, c5, rfl⟩ := hR5.slice; rw [htl] at hR5 ⊢; have Sh5 := Sh.below hb5; have S5 := hR5.ss)
                  | (go_at_call 20; (with_reducible refine (q1 _ _ _ S5 Sh5).mono ?_); rintro e w6 ⟨rfl, hb6⟩; have Sh6 := Sh5.below hb6))
                have HB6 := Lib.hid (hb5.trans (hb6.mono hb5.size))
                have T6 := Lib.hid (HT3.out.next (hb5.trans (hb6.mono hb5.size)))
                clear hb5 hb6 kS1 hex Sh S5 Sh5 hR5
                go_loop [22, 23] (fun e i => ∃ i' : Nat, i = .int .i64 (i' : Int) ∧ i' ≤ C.length ∧ e = .bool (edgeB L K i')) (fun _ i => C.length - (intOf i).toNat)
                case atStart => exact ⟨0, rfl, Nat.zero_le _, by rw [edgeB_zero]⟩
                case round =>
                  obtain ⟨i', rfl, hi, rfl⟩ := hrel
                  by_cases hil : i' < C.length
                  · have hili : (i' : Int) < (C.length : Int) := by omega
                    obtain ⟨g3, e3, hg3, hcell3⟩ := HE.out i' hil
                    cases e3
                    have hcell6 := (HB6.out.cell (p := ⟨g, i', none⟩) hg3).trans hcell3
                    have HES := Lib.hid (edgeB_succ L K i')
                    obtain ⟨e2, he2⟩ : ∃ e, Fr.start L (i' + 1) = e := ⟨_, rfl⟩
                    rw [he2] at hcell6 HES
                    clear hcell3 he2
                    cases hb : edgeB L K i' with
                    | true =>
                      rw [hb] at HES
                      clear hb
                      go_wp2
                      go_round
                      case rel => exact ⟨i' + 1, by go_num, by omega, by rw [HES.out]; rfl⟩
                      case measure => simp [intOf]; omega
                    | false =>
                      rw [hb] at HES
                      clear hb
                      by_cases hq : e2 = K
                      · have hqi : ((e2 : Int) == (K : Int)) = true := by simp; omega
                        rw [decide_eq_true hq] at HES
                        clear hq
                        go_wp2
                        go_round
                        case rel => exact ⟨i' + 1, by go_num, by omega, by rw [HES.out]; rfl⟩
                        case measure => simp [intOf]; omega
                      · have hqi : ((e2 : Int) == (K : Int)) = false := by simp; omega
                        rw [decide_eq_false hq] at HES
                        clear hq
                        go_wp2
                        go_round
                        case rel => exact ⟨i' + 1, by go_num, by omega, by rw [HES.out]; rfl⟩
                        case measure => simp [intOf]; omega
                  · have hili : ¬ (i' : Int) < (C.length : Int) := by omega
                    obtain rfl : i' = C.length := by omega
                    rw [HEA.out]
                    clear hK0 HEA
                    have hKN2 : K < N := by
                      have h1 := start_mono L (show j + 1 ≤ L.length by omega) (Nat.le_refl _)
                      rw [start_all, HNN.out] at h1
                      omega
                    have hKNf : ((K : Int) == (N : Int)) = false := by simp; omega
                    by_cases ht0 : tn = 0
                    · subst ht0
                      by_cases hKJ : K = J
                      · rw [if_pos hKJ] at hST
                        subst hST
                        rw [decide_eq_true hKJ]
                        clear hst
                        go_wp2
                        go_ret
                        exact ⟨rfl, HB3.out.trans (HB6.out.mono hw0r)⟩
                      · rw [if_neg hKJ] at hST
                        subst hST
                        rw [decide_eq_false hKJ]
                        clear hst
                        go_wp2
                        go_ret
                        exact ⟨rfl, HB3.out.trans (HB6.out.mono hw0r)⟩
                    · have ht0f : (tn == 0) = false := by simpa using ht0
                      by_cases hKJ : K = J
                      · rw [if_pos hKJ] at hST
                        subst hST
                        rw [decide_eq_true hKJ]
                        obtain ⟨gb, eb, hgb, hcb⟩ := HBG.out j hjl
                        cases eb
                        rw [hJ] at hcb
                        have hcb6 := (HB6.out.cell (p := ⟨gb, j, none⟩) hgb).trans hcb
                        have hKJi : ((K : Int) == (J : Int)) = true := by simp; omega
                        clear hst hcb
                        go_wp2
                        go_ret
                        exact ⟨rfl, HB3.out.trans (HB6.out.mono hw0r)⟩
                      · rw [if_neg hKJ] at hST
                        subst hST
                        rw [decide_eq_false hKJ]
                        have hKN3 : K < (frs L).length := by rw [HNN.out]; omega
                        obtain ⟨x, hx0, hx1⟩ : ∃ x : UInt8, x ≠ 0 ∧ tn = (x.toNat : Int) := by
                          have e : (UInt8.ofNat tn.toNat).toNat = tn.toNat := by rw [UInt8.toNat_ofNat']; omega
                          refine ⟨UInt8.ofNat tn.toNat, fun e0 => ?_, by omega⟩
                          rw [e0] at e
                          have : (0 : UInt8).toNat = 0 := rfl
                          omega
                        have hturn := scan_turn L HLS.out j K (by omega) (by omega) (by omega) x hx0 hKN3
                        have hSD : S.data.toList = frs L := by rw [← HSS.out, tx_data]
                        have hnl : K < S.data.toList.length := by rw [hSD]; exact hKN3
                        obtain ⟨cc, hcc⟩ : ∃ cc, cc = S.data.toList[K] := ⟨_, rfl⟩
                        have hcc2 : cc = (frs L)[K] := by rw [hcc]; congr 1
                        obtain ⟨y, hy⟩ : ∃ y, y = cc ^^^ x := ⟨_, rfl⟩
                        obtain ⟨v, hv⟩ : ∃ v : ByteArray, v = ⟨(S.data.toList.set K y).toArray⟩ := ⟨_, rfl⟩
                        have hxor : bits .xor .u8 (cc.toNat : Int) (x.toNat : Int) = (y.toNat : Int) := by rw [hy]; exact xor8_is cc x
                        have hvt : tx ((frs L).set K ((frs L)[K] ^^^ x)) = v := by rw [hv, hSD, hy, hcc2]; rfl
                        have kS2 := fun w ht => scan_is ((frs L).set K ((frs L)[K] ^^^ x)) (C.take j) ((Fr.start L j : Nat) : Int) 3 w (by rw [List.length_set, HNN.out]; omega) ht (by show txL _ = _; rw [hturn]; exact HTX.out j) (by show _ = _; rw [hturn]) (by show _ = _; rw [hturn]; rfl)
                        rw [hvt, hJ] at kS2
                        obtain ⟨cap, w7, hcap, hconv, hcell7, hfree7, hback, hb7⟩ := turned_text Tryd.prog 9 28 5 Tryd.underlying9 Tryd.underlying28 Tryd.underlying5 S v K hnl y hv w6
                        rw [← hcc] at hcell7
                        rw [hSz] at hconv hback
                        have HBS := Lib.hid (HB6.out.trans (hb7.mono HB6.out.size))
                        have HT7 := Lib.hid (T6.out.below hb7 (by have := T6.out.room; omega))
                        have Sh7 := Sh6.below hb7
                        have HBG2 := HBG.out j hjl
                        obtain ⟨gb, eb, hgb, hcb⟩ := HBG2
                        cases eb
                        rw [hJ] at hcb
                        have hcb6 := (HB6.out.cell (p := ⟨gb, j, none⟩) hgb).trans hcb
                        have HCB := Lib.hid hcb
                        have hKJi : ((K : Int) == (J : Int)) = false := by simp; omega
                        have hJJ : ((J : Int) == (J : Int)) = true := by simp
                        subst hx1
                        clear hturn hSD hnl hcc hcc2 hy hv hvt hb7 hcb hcap Sh6
                        go_wp2_with (first
                          | (go_at_call 18; (with_reducible refine (kS2 _ HT7.out).mono ?_); rintro e w8 ⟨v8, rfl, hR8, hb8⟩; obtain ⟨a9, c9, rfl⟩ := hR8.slice; rw [htl] at hR8 ⊢; have Sh8 := Sh7.below hb8; have S8 := hR8.ss; have hB8 := HBS.out.trans (hb8.mono HBS.out.size))
                          | (go_at_call 20; (with_reducible refine (q1 _ _ _ S8 Sh8).mono ?_); rintro e w9 ⟨rfl, hb9⟩; have hB9 := hB8.trans (hb9.mono hB8.size); have hcb9 := (hB9.cell (p := ⟨gb, j, none⟩) hgb).trans HCB.out))
                        go_ret
                        exact ⟨rfl, HB3.out.trans (hB9.mono hw0r)⟩
            · have hjli : ¬ (j : Int) < (C.length : Int) := by omega
              have hjE := Lib.hid (show j = C.length by omega)
              have hhi : j < L.length → K < Fr.start L (j + 1) := fun h => by omega
              have hcut := cut_at L HL7.out K j (by omega) hjK.out hhi (by rw [HNN.out]; omega)
              have hex : S.extract 0 K = tx ((frs L).take K) := by rw [← HSS.out, tx_part]; simp
              obtain ⟨U, hU⟩ : ∃ U, tx ((frs L).take K) = U := ⟨_, rfl⟩
              rw [hU] at hex
              have hEA := edgeB_all L K j (by omega) hjK.out hhi
              rw [hLl] at hEA
              obtain ⟨ST, hST⟩ : ∃ st : Nat, (if K = Fr.start L j then 1 else 2) = st := ⟨_, rfl⟩
              rw [hST] at hcut
              have kS1 := fun w ht => scan_is ((frs L).take K) (C.take j) ((Fr.start L j : Nat) : Int) (ST : Int) w (by rw [List.length_take, HNN.out]; omega) ht (by show txL _ = _; rw [hcut]; exact HTX.out j) (by show _ = _; rw [hcut]) (by show _ = _; rw [hcut])
              rw [hU] at kS1
              obtain ⟨vh, ⟨hh1, hh2⟩, Sh⟩ := HMM.out.cutHead j hj
              have htl : (C.take j).length = j := by rw [List.length_take]; omega
              have q1 := fun v1 v2 w (h1 : Ss w v1 (C.take j)) (h2 : Ss w v2 (C.take j)) => same_is v1 v2 (C.take j) (C.take j) w h1 h2
              rw [sameS_self] at q1
              have hKNi : (K : Int) ≤ (N : Int) := by omega
              obtain ⟨J, hJ⟩ : ∃ J, Fr.start L j = J := ⟨_, rfl⟩
              have hJK := hjK.out
              rw [hJ] at kS1 hJK hEA hST
              have hJKi : ¬ (K : Int) < (J : Int) := by omega
              have hK0 : ((K : Int) == 0) = decide (K = 0) := by
                by_cases h : K = 0
                · subst h; rfl
                · rw [decide_eq_false h]; simp; exact h
              have HEA := Lib.hid hEA
              clear hcut hU hhi hEA
              go_wp2_with (first
                | (go_at_call 18; (with_reducible refine (kS1 _ HT3.out).mono ?_); rintro e w5 ⟨v5, rfl, hR5, hb5⟩; obtain ⟨a5, c5, rfl⟩ := hR5.slice; rw [htl] at hR5 ⊢; have Sh5 := Sh.below hb5; have S5 := hR5.ss)
                | (go_at_call 20; (with_reducible refine (q1 _ _ _ S5 Sh5).mono ?_); rintro e w6 ⟨rfl, hb6⟩; have Sh6 := Sh5.below hb6))
              have HB6 := Lib.hid (hb5.trans (hb6.mono hb5.size))
              have T6 := Lib.hid (HT3.out.next (hb5.trans (hb6.mono hb5.size)))
              clear hb5 hb6 kS1 hex Sh S5 Sh5 hR5
              go_loop [22, 23] (fun e i => ∃ i' : Nat, i = .int .i64 (i' : Int) ∧ i' ≤ C.length ∧ e = .bool (edgeB L K i')) (fun _ i => C.length - (intOf i).toNat)
              case atStart => exact ⟨0, rfl, Nat.zero_le _, by rw [edgeB_zero]⟩
              case round =>
                obtain ⟨i', rfl, hi, rfl⟩ := hrel
                by_cases hil : i' < C.length
                · have hili : (i' : Int) < (C.length : Int) := by omega
                  obtain ⟨g3, e3, hg3, hcell3⟩ := HE.out i' hil
                  cases e3
                  have hcell6 := (HB6.out.cell (p := ⟨g3, i', none⟩) hg3).trans hcell3
                  have HES := Lib.hid (edgeB_succ L K i')
                  obtain ⟨e2, he2⟩ : ∃ e, Fr.start L (i' + 1) = e := ⟨_, rfl⟩
                  rw [he2] at hcell6 HES
                  clear hcell3 he2
                  cases hb : edgeB L K i' with
                  | true =>
                    rw [hb] at HES
                    clear hb
                    go_wp2
                    go_round
                    case rel => exact ⟨i' + 1, by go_num, by omega, by rw [HES.out]; rfl⟩
                    case measure => simp [intOf]; omega
                  | false =>
                    rw [hb] at HES
                    clear hb
                    by_cases hq : e2 = K
                    · have hqi : ((e2 : Int) == (K : Int)) = true := by simp; omega
                      rw [decide_eq_true hq] at HES
                      clear hq
                      go_wp2
                      go_round
                      case rel => exact ⟨i' + 1, by go_num, by omega, by rw [HES.out]; rfl⟩
                      case measure => simp [intOf]; omega
                    · have hqi : ((e2 : Int) == (K : Int)) = false := by simp; omega
                      rw [decide_eq_false hq] at HES
                      clear hq
                      go_wp2
                      go_round
                      case rel => exact ⟨i' + 1, by go_num, by omega, by rw [HES.out]; rfl⟩
                      case measure => simp [intOf]; omega
                · have hili : ¬ (i' : Int) < (C.length : Int) := by omega
                  obtain rfl : i' = C.length := by omega
                  rw [HEA.out]
                  clear hK0 HEA
                  have hJN : J = N := by
                    have h1 := start_all L
                    rw [HNN.out, hLl] at h1
                    rw [← hJ, hjE.out]
                    exact h1
                  obtain rfl : K = N := by omega
                  subst hJN
                  rw [if_pos rfl] at hST
                  subst hST
                  rw [decide_eq_true (show J = J from rfl)]
                  go_wp2
                  go_ret
                  exact ⟨rfl, HB3.out.trans (HB6.out.mono hw0r)⟩
        · skip
          go_wp2
          go_loop [17] (fun b => ∃ j : Nat, b = .int .i64 (j : Int) ∧ j ≤ C.length ∧ Hid (Fr.start L j ≤ K)) (fun b => C.length - (intOf b).toNat)
          case atStart => exact ⟨0, rfl, Nat.zero_le _, Lib.hid (Nat.zero_le _)⟩
          case round =>
            obtain ⟨j, rfl, hj, hjK⟩ := hrel
            by_cases hjl : j < C.length
            · have hjli : (j : Int) < (C.length : Int) := by omega
              obtain ⟨g, e3, hg, hcell⟩ := HE.out j hjl
              cases e3
              by_cases hst : Fr.start L (j + 1) ≤ K
              · have hsti : ((Fr.start L (j + 1) : Nat) : Int) ≤ (K : Int) := by omega
                have HST := Lib.hid hst
                obtain ⟨e2, he2⟩ : ∃ e, Fr.start L (j + 1) = e := ⟨_, rfl⟩
                rw [he2] at hcell hsti
                clear he2 hst
                go_wp2
                go_round
                case rel => exact ⟨j + 1, by go_num, by omega, HST⟩
                case measure => simp [intOf]; omega
              · have hsti : ¬ ((Fr.start L (j + 1) : Nat) : Int) ≤ (K : Int) := by omega
                have HNL := Lib.hid hst
                have hhi : j < L.length → K < Fr.start L (j + 1) := fun h => by omega
                have hcut := cut_at L HL7.out K j (by omega) hjK.out hhi (by rw [HNN.out]; omega)
                have hex : S.extract 0 K = tx ((frs L).take K) := by rw [← HSS.out, tx_part]; simp
                obtain ⟨U, hU⟩ : ∃ U, tx ((frs L).take K) = U := ⟨_, rfl⟩
                rw [hU] at hex
                have hEA := edgeB_all L K j (by omega) hjK.out hhi
                rw [hLl] at hEA
                obtain ⟨ST, hST⟩ : ∃ st : Nat, (if K = Fr.start L j then 1 else 2) = st := ⟨_, rfl⟩
                rw [hST] at hcut
                have kS1 := fun w ht => scan_is ((frs L).take K) (C.take j) ((Fr.start L j : Nat) : Int) (ST : Int) w (by rw [List.length_take, HNN.out]; omega) ht (by show txL _ = _; rw [hcut]; exact HTX.out j) (by show _ = _; rw [hcut]) (by show _ = _; rw [hcut])
                rw [hU] at kS1
                obtain ⟨vh, ⟨hh1, hh2⟩, Sh⟩ := HMM.out.cutHead j hj
                have htl : (C.take j).length = j := by rw [List.length_take]; omega
                have q1 := fun v1 v2 w (h1 : Ss w v1 (C.take j)) (h2 : Ss w v2 (C.take j)) => same_is v1 v2 (C.take j) (C.take j) w h1 h2
                rw [sameS_self] at q1
                have hKNi : (K : Int) ≤ (N : Int) := by omega
                obtain ⟨J, hJ⟩ : ∃ J, Fr.start L j = J := ⟨_, rfl⟩
                have hJK := hjK.out
                rw [hJ] at kS1 hJK hEA hST
                have hJKi : ¬ (K : Int) < (J : Int) := by omega
                have hK0 : ((K : Int) == 0) = decide (K = 0) := by
                  by_cases h : K = 0
                  · subst h; rfl
                  · rw [decide_eq_false h]; simp; exact h
                have HEA := Lib.hid hEA
                clear hcut hU hhi hEA
                go_wp2_with (first
                  | (go_at_call 18; (with_reducible refine (kS1 _ HT3.out).mono ?_); rintro e w5 ⟨v5, rfl, hR5, hb5⟩; obtain ⟨a5, c5, rfl⟩ := hR5.slice; rw [htl] at hR5 ⊢; have Sh5 := Sh.below hb5; have S5 := hR5.ss)
                  | (go_at_call 20; (with_reducible refine (q1 _ _ _ S5 Sh5).mono ?_); rintro e w6 ⟨rfl, hb6⟩; have Sh6 := Sh5.below hb6))
                have HB6 := Lib.hid (hb5.trans (hb6.mono hb5.size))
                have T6 := Lib.hid (HT3.out.next (hb5.trans (hb6.mono hb5.size)))
                clear hb5 hb6 kS1 hex Sh S5 Sh5 hR5
                go_loop [22, 23] (fun e i => ∃ i' : Nat, i = .int .i64 (i' : Int) ∧ i' ≤ C.length ∧ e = .bool (edgeB L K i')) (fun _ i => C.length - (intOf i).toNat)
                case atStart => exact ⟨0, rfl, Nat.zero_le _, by rw [edgeB_zero]⟩
                case round =>
                  obtain ⟨i', rfl, hi, rfl⟩ := hrel
                  by_cases hil : i' < C.length
                  · have hili : (i' : Int) < (C.length : Int) := by omega
                    obtain ⟨g3, e3, hg3, hcell3⟩ := HE.out i' hil
                    cases e3
                    have hcell6 := (HB6.out.cell (p := ⟨g, i', none⟩) hg3).trans hcell3
                    have HES := Lib.hid (edgeB_succ L K i')
                    obtain ⟨e2, he2⟩ : ∃ e, Fr.start L (i' + 1) = e := ⟨_, rfl⟩
                    rw [he2] at hcell6 HES
                    clear hcell3 he2
                    cases hb : edgeB L K i' with
                    | true =>
                      rw [hb] at HES
                      clear hb
                      go_wp2
                      go_round
                      case rel => exact ⟨i' + 1, by go_num, by omega, by rw [HES.out]; rfl⟩
                      case measure => simp [intOf]; omega
                    | false =>
                      rw [hb] at HES
                      clear hb
                      by_cases hq : e2 = K
                      · have hqi : ((e2 : Int) == (K : Int)) = true := by simp; omega
                        rw [decide_eq_true hq] at HES
                        clear hq
                        go_wp2
                        go_round
                        case rel => exact ⟨i' + 1, by go_num, by omega, by rw [HES.out]; rfl⟩
                        case measure => simp [intOf]; omega
                      · have hqi : ((e2 : Int) == (K : Int)) = false := by simp; omega
                        rw [decide_eq_false hq] at HES
                        clear hq
                        go_wp2
                        go_round
                        case rel => exact ⟨i' + 1, by go_num, by omega, by rw [HES.out]; rfl⟩
                        case measure => simp [intOf]; omega
                  · have hili : ¬ (i' : Int) < (C.length : Int) := by omega
                    obtain rfl : i' = C.length := by omega
                    rw [HEA.out]
                    clear hK0 HEA
                    have hKN2 : K < N := by
                      have h1 := start_mono L (show j + 1 ≤ L.length by omega) (Nat.le_refl _)
                      rw [start_all, HNN.out] at h1
                      omega
                    have hKNf : ((K : Int) == (N : Int)) = false := by simp; omega
                    by_cases ht0 : tn = 0
                    · subst ht0
                      by_cases hKJ : K = J
                      · rw [if_pos hKJ] at hST
                        subst hST
                        rw [decide_eq_true hKJ]
                        clear hst
                        go_wp2
                        go_ret
                        exact ⟨rfl, HB3.out.trans (HB6.out.mono hw0r)⟩
                      · rw [if_neg hKJ] at hST
                        subst hST
                        rw [decide_eq_false hKJ]
                        clear hst
                        go_wp2
                        go_ret
                        exact ⟨rfl, HB3.out.trans (HB6.out.mono hw0r)⟩
                    · have ht0f : (tn == 0) = false := by simpa using ht0
                      by_cases hKJ : K = J
                      · rw [if_pos hKJ] at hST
                        subst hST
                        rw [decide_eq_true hKJ]
                        obtain ⟨gb, eb, hgb, hcb⟩ := HBG.out j hjl
                        cases eb
                        rw [hJ] at hcb
                        have hcb6 := (HB6.out.cell (p := ⟨gb, j, none⟩) hgb).trans hcb
                        have hKJi : ((K : Int) == (J : Int)) = true := by simp; omega
                        clear hst hcb
                        go_wp2
                        go_ret
                        exact ⟨rfl, HB3.out.trans (HB6.out.mono hw0r)⟩
                      · rw [if_neg hKJ] at hST
                        subst hST
                        rw [decide_eq_false hKJ]
                        have hKN3 : K < (frs L).length := by rw [HNN.out]; omega
                        obtain ⟨x, hx0, hx1⟩ : ∃ x : UInt8, x ≠ 0 ∧ tn = (x.toNat : Int) := by
                          have e : (UInt8.ofNat tn.toNat).toNat = tn.toNat := by rw [UInt8.toNat_ofNat']; omega
                          refine ⟨UInt8.ofNat tn.toNat, fun e0 => ?_, by omega⟩
                          rw [e0] at e
                          have : (0 : UInt8).toNat = 0 := rfl
                          omega
                        have hturn := scan_turn L HLS.out j K (by omega) (by omega) (by omega) x hx0 hKN3
                        have hSD : S.data.toList = frs L := by rw [← HSS.out, tx_data]
                        have hnl : K < S.data.toList.length := by rw [hSD]; exact hKN3
                        obtain ⟨cc, hcc⟩ : ∃ cc, cc = S.data.toList[K] := ⟨_, rfl⟩
                        have hcc2 : cc = (frs L)[K] := by rw [hcc]; congr 1
                        obtain ⟨y, hy⟩ : ∃ y, y = cc ^^^ x := ⟨_, rfl⟩
                        obtain ⟨v, hv⟩ : ∃ v : ByteArray, v = ⟨(S.data.toList.set K y).toArray⟩ := ⟨_, rfl⟩
                        have hxor : bits .xor .u8 (cc.toNat : Int) (x.toNat : Int) = (y.toNat : Int) := by rw [hy]; exact xor8_is cc x
                        have hvt : tx ((frs L).set K ((frs L)[K] ^^^ x)) = v := by rw [hv, hSD, hy, hcc2]; rfl
                        have kS2 := fun w ht => scan_is ((frs L).set K ((frs L)[K] ^^^ x)) (C.take j) ((Fr.start L j : Nat) : Int) 3 w (by rw [List.length_set, HNN.out]; omega) ht (by show txL _ = _; rw [hturn]; exact HTX.out j) (by show _ = _; rw [hturn]) (by show _ = _; rw [hturn]; rfl)
                        rw [hvt, hJ] at kS2
                        obtain ⟨cap, w7, hcap, hconv, hcell7, hfree7, hback, hb7⟩ := turned_text Tryd.prog 9 28 5 Tryd.underlying9 Tryd.underlying28 Tryd.underlying5 S v K hnl y hv w6
                        rw [← hcc] at hcell7
                        rw [hSz] at hconv hback
                        have HBS := Lib.hid (HB6.out.trans (hb7.mono HB6.out.size))
                        have HT7 := Lib.hid (T6.out.below hb7 (by have := T6.out.room; omega))
                        have Sh7 := Sh6.below hb7
                        have HBG2 := HBG.out j hjl
                        obtain ⟨gb, eb, hgb, hcb⟩ := HBG2
                        cases eb
                        rw [hJ] at hcb
                        have hcb6 := (HB6.out.cell (p := ⟨gb, j, none⟩) hgb).trans hcb
                        have HCB := Lib.hid hcb
                        have hKJi : ((K : Int) == (J : Int)) = false := by simp; omega
                        have hJJ : ((J : Int) == (J : Int)) = true := by simp
                        subst hx1
                        clear hturn hSD hnl hcc hcc2 hy hv hvt hb7 hcb hcap Sh6
                        go_wp2_with (first
                          | (go_at_call 18; (with_reducible refine (kS2 _ HT7.out).mono ?_); rintro e w8 ⟨v8, rfl, hR8, hb8⟩; obtain ⟨a9, c9, rfl⟩ := hR8.slice; rw [htl] at hR8 ⊢; have Sh8 := Sh7.below hb8; have S8 := hR8.ss; have hB8 := HBS.out.trans (hb8.mono HBS.out.size))
                          | (go_at_call 20; (with_reducible refine (q1 _ _ _ S8 Sh8).mono ?_); rintro e w9 ⟨rfl, hb9⟩; have hB9 := hB8.trans (hb9.mono hB8.size); have hcb9 := (hB9.cell (p := ⟨gb, j, none⟩) hgb).trans HCB.out))
                        go_ret
                        exact ⟨rfl, HB3.out.trans (hB9.mono hw0r)⟩
            · have hjli : ¬ (j : Int) < (C.length : Int) := by omega
              have hjE := Lib.hid (show j = C.length by omega)
              have hhi : j < L.length → K < Fr.start L (j + 1) := fun h => by omega
              have hcut := cut_at L HL7.out K j (by omega) hjK.out hhi (by rw [HNN.out]; omega)
              have hex : S.extract 0 K = tx ((frs L).take K) := by rw [← HSS.out, tx_part]; simp
              obtain ⟨U, hU⟩ : ∃ U, tx ((frs L).take K) = U := ⟨_, rfl⟩
              rw [hU] at hex
              have hEA := edgeB_all L K j (by omega) hjK.out hhi
              rw [hLl] at hEA
              obtain ⟨ST, hST⟩ : ∃ st : Nat, (if K = Fr.start L j then 1 else 2) = st := ⟨_, rfl⟩
              rw [hST] at hcut
              have kS1 := fun w ht => scan_is ((frs L).take K) (C.take j) ((Fr.start L j : Nat) : Int) (ST : Int) w (by rw [List.length_take, HNN.out]; omega) ht (by show txL _ = _; rw [hcut]; exact HTX.out j) (by show _ = _; rw [hcut]) (by show _ = _; rw [hcut])
              rw [hU] at kS1
              obtain ⟨vh, ⟨hh1, hh2⟩, Sh⟩ := HMM.out.cutHead j hj
              have htl : (C.take j).length = j := by rw [List.length_take]; omega
              have q1 := fun v1 v2 w (h1 : Ss w v1 (C.take j)) (h2 : Ss w v2 (C.take j)) => same_is v1 v2 (C.take j) (C.take j) w h1 h2
              rw [sameS_self] at q1
              have hKNi : (K : Int) ≤ (N : Int) := by omega
              obtain ⟨J, hJ⟩ : ∃ J, Fr.start L j = J := ⟨_, rfl⟩
              have hJK := hjK.out
              rw [hJ] at kS1 hJK hEA hST
              have hJKi : ¬ (K : Int) < (J : Int) := by omega
              have hK0 : ((K : Int) == 0) = decide (K = 0) := by
                by_cases h : K = 0
                · subst h; rfl
                · rw [decide_eq_false h]; simp; exact h
              have HEA := Lib.hid hEA
              clear hcut hU hhi hEA
              go_wp2_with (first
                | (go_at_call 18; (with_reducible refine (kS1 _ HT3.out).mono ?_); rintro e w5 ⟨v5, rfl, hR5, hb5⟩; obtain ⟨a5, c5, rfl⟩ := hR5.slice; rw [htl] at hR5 ⊢; have Sh5 := Sh.below hb5; have S5 := hR5.ss)
                | (go_at_call 20; (with_reducible refine (q1 _ _ _ S5 Sh5).mono ?_); rintro e w6 ⟨rfl, hb6⟩; have Sh6 := Sh5.below hb6))
              have HB6 := Lib.hid (hb5.trans (hb6.mono hb5.size))
              have T6 := Lib.hid (HT3.out.next (hb5.trans (hb6.mono hb5.size)))
              clear hb5 hb6 kS1 hex Sh S5 Sh5 hR5
              go_loop [22, 23] (fun e i => ∃ i' : Nat, i = .int .i64 (i' : Int) ∧ i' ≤ C.length ∧ e = .bool (edgeB L K i')) (fun _ i => C.length - (intOf i).toNat)
              case atStart => exact ⟨0, rfl, Nat.zero_le _, by rw [edgeB_zero]⟩
              case round =>
                obtain ⟨i', rfl, hi, rfl⟩ := hrel
                by_cases hil : i' < C.length
                · have hili : (i' : Int) < (C.length : Int) := by omega
                  obtain ⟨g3, e3, hg3, hcell3⟩ := HE.out i' hil
                  cases e3
                  have hcell6 := (HB6.out.cell (p := ⟨g3, i', none⟩) hg3).trans hcell3
                  have HES := Lib.hid (edgeB_succ L K i')
                  obtain ⟨e2, he2⟩ : ∃ e, Fr.start L (i' + 1) = e := ⟨_, rfl⟩
                  rw [he2] at hcell6 HES
                  clear hcell3 he2
                  cases hb : edgeB L K i' with
                  | true =>
                    rw [hb] at HES
                    clear hb
                    go_wp2
                    go_round
                    case rel => exact ⟨i' + 1, by go_num, by omega, by rw [HES.out]; rfl⟩
                    case measure => simp [intOf]; omega
                  | false =>
                    rw [hb] at HES
                    clear hb
                    by_cases hq : e2 = K
                    · have hqi : ((e2 : Int) == (K : Int)) = true := by simp; omega
                      rw [decide_eq_true hq] at HES
                      clear hq
                      go_wp2
                      go_round
                      case rel => exact ⟨i' + 1, by go_num, by omega, by rw [HES.out]; rfl⟩
                      case measure => simp [intOf]; omega
                    · have hqi : ((e2 : Int) == (K : Int)) = false := by simp; omega
                      rw [decide_eq_false hq] at HES
                      clear hq
                      go_wp2
                      go_round
                      case rel => exact ⟨i' + 1, by go_num, by omega, by rw [HES.out]; rfl⟩
                      case measure => simp [intOf]; omega
                · have hili : ¬ (i' : Int) < (C.length : Int) := by omega
                  obtain rfl : i' = C.length := by omega
                  rw [HEA.out]
                  clear hK0 HEA
                  have hJN : J = N := by
                    have h1 := start_all L
                    rw [HNN.out, hLl] at h1
                    rw [← hJ, hjE.out]
                    exact h1
                  obtain rfl : K = N := by omega
                  subst hJN
                  rw [if_pos rfl] at hST
                  subst hST
                  rw [decide_eq_true (show J = J from rfl)]
                  go_wp2
                  go_ret
                  exact ⟨rfl, HB3.out.trans (HB6.out.mono hw0r)⟩
      · rcases hsign with ⟨hs1, hs2⟩ | ⟨hs1, hs2⟩
        · skip
          go_wp2
          go_loop [17] (fun b => ∃ j : Nat, b = .int .i64 (j : Int) ∧ j ≤ C.length ∧ Hid (Fr.start L j ≤ K)) (fun b => C.length - (intOf b).toNat)
          case atStart => exact ⟨0, rfl, Nat.zero_le _, Lib.hid (Nat.zero_le _)⟩
          case round =>
            obtain ⟨j, rfl, hj, hjK⟩ := hrel
            by_cases hjl : j < C.length
            · have hjli : (j : Int) < (C.length : Int) := by omega
              obtain ⟨g, e3, hg, hcell⟩ := HE.out j hjl
              cases e3
              by_cases hst : Fr.start L (j + 1) ≤ K
              · have hsti : ((Fr.start L (j + 1) : Nat) : Int) ≤ (K : Int) := by omega
                have HST := Lib.hid hst
                obtain ⟨e2, he2⟩ : ∃ e, Fr.start L (j + 1) = e := ⟨_, rfl⟩
                rw [he2] at hcell hsti
                clear he2 hst
                go_wp2
                go_round
                case rel => exact ⟨j + 1, by go_num, by omega, HST⟩
                case measure => simp [intOf]; omega
              · have hsti : ¬ ((Fr.start L (j + 1) : Nat) : Int) ≤ (K : Int) := by omega
                have HNL := Lib.hid hst
                have hhi : j < L.length → K < Fr.start L (j + 1) := fun h => by omega
                have hcut := cut_at L HL7.out K j (by omega) hjK.out hhi (by rw [HNN.out]; omega)
                have hex : S.extract 0 K = tx ((frs L).take K) := by rw [← HSS.out, tx_part]; simp
                obtain ⟨U, hU⟩ : ∃ U, tx ((frs L).take K) = U := ⟨_, rfl⟩
                rw [hU] at hex
                have hEA := edgeB_all L K j (by omega) hjK.out hhi
                rw [hLl] at hEA
                obtain ⟨ST, hST⟩ : ∃ st : Nat, (if K = Fr.start L j then 1 else 2) = st := ⟨_, rfl⟩
                rw [hST] at hcut
                have kS1 := fun w ht => scan_is ((frs L).take K) (C.take j) ((Fr.start L j : Nat) : Int) (ST : Int) w (by rw [List.length_take, HNN.out]; omega) ht (by show txL _ = _; rw [hcut]; exact HTX.out j) (by show _ = _; rw [hcut]) (by show _ = _; rw [hcut])
                rw [hU] at kS1
                obtain ⟨vh, ⟨hh1, hh2⟩, Sh⟩ := HMM.out.cutHead j hj
                have htl : (C.take j).length = j := by rw [List.length_take]; omega
                have q1 := fun v1 v2 w (h1 : Ss w v1 (C.take j)) (h2 : Ss w v2 (C.take j)) => same_is v1 v2 (C.take j) (C.take j) w h1 h2
                rw [sameS_self] at q1
                have hKNi : (K : Int) ≤ (N : Int) := by omega
                obtain ⟨J, hJ⟩ : ∃ J, Fr.start L j = J := ⟨_, rfl⟩
                have hJK := hjK.out
                rw [hJ] at kS1 hJK hEA hST
                have hJKi : ¬ (K : Int) < (J : Int) := by omega
                have hK0 : ((K : Int) == 0) = decide (K = 0) := by
                  by_cases h : K = 0
                  · subst h; rfl
                  · rw [decide_eq_false h]; simp; exact h
                have HEA := Lib.hid hEA
                clear hcut hU hhi hEA
                go_wp2_with (first
                  | (go_at_call 18; (with_reducible refine (kS1 _ HT3.out).mono ?_); rintro e w5 ⟨v5, rfl, hR5, hb5⟩; obtain ⟨a5, c5, rfl⟩ := hR5.slice; rw [htl] at hR5 ⊢; have Sh5 := Sh.below hb5; have S5 := hR5.ss)
                  | (go_at_call 20; (with_reducible refine (q1 _ _ _ S5 Sh5).mono ?_); rintro e w6 ⟨rfl, hb6⟩; have Sh6 := Sh5.below hb6))
                have HB6 := Lib.hid (hb5.trans (hb6.mono hb5.size))
                have T6 := Lib.hid (HT3.out.next (hb5.trans (hb6.mono hb5.size)))
                clear hb5 hb6 kS1 hex Sh S5 Sh5 hR5
                go_loop [22, 23] (fun e i => ∃ i' : Nat, i = .int .i64 (i' : Int) ∧ i' ≤ C.length ∧ e = .bool (edgeB L K i')) (fun _ i => C.length - (intOf i).toNat)
                case atStart => exact ⟨0, rfl, Nat.zero_le _, by rw [edgeB_zero]⟩
                case round =>
                  obtain ⟨i', rfl, hi, rfl⟩ := hrel
                  by_cases hil : i' < C.length
                  · have hili : (i' : Int) < (C.length : Int) := by omega
                    obtain ⟨g3, e3, hg3, hcell3⟩ := HE.out i' hil
                    cases e3
                    have hcell6 := (HB6.out.cell (p := ⟨g, i', none⟩) hg3).trans hcell3
                    have HES := Lib.hid (edgeB_succ L K i')
                    obtain ⟨e2, he2⟩ : ∃ e, Fr.start L (i' + 1) = e := ⟨_, rfl⟩
                    rw [he2] at hcell6 HES
                    clear hcell3 he2
                    cases hb : edgeB L K i' with
                    | true =>
                      rw [hb] at HES
                      clear hb
                      go_wp2
                      go_round
                      case rel => exact ⟨i' + 1, by go_num, by omega, by rw [HES.out]; rfl⟩
                      case measure => simp [intOf]; omega
                    | false =>
                      rw [hb] at HES
                      clear hb
                      by_cases hq : e2 = K
                      · have hqi : ((e2 : Int) == (K : Int)) = true := by simp; omega
                        rw [decide_eq_true hq] at HES
                        clear hq
                        go_wp2
                        go_round
                        case rel => exact ⟨i' + 1, by go_num, by omega, by rw [HES.out]; rfl⟩
                        case measure => simp [intOf]; omega
                      · have hqi : ((e2 : Int) == (K : Int)) = false := by simp; omega
                        rw [decide_eq_false hq] at HES
                        clear hq
                        go_wp2
                        go_round
                        case rel => exact ⟨i' + 1, by go_num, by omega, by rw [HES.out]; rfl⟩
                        case measure => simp [intOf]; omega
                  · have hili : ¬ (i' : Int) < (C.length : Int) := by omega
                    obtain rfl : i' = C.length := by omega
                    rw [HEA.out]
                    clear hK0 HEA
                    have hKN2 : K < N := by
                      have h1 := start_mono L (show j + 1 ≤ L.length by omega) (Nat.le_refl _)
                      rw [start_all, HNN.out] at h1
                      omega
                    have hKNf : ((K : Int) == (N : Int)) = false := by simp; omega
                    by_cases ht0 : tn = 0
                    · subst ht0
                      by_cases hKJ : K = J
                      · rw [if_pos hKJ] at hST
                        subst hST
                        rw [decide_eq_true hKJ]
                        clear hst
                        go_wp2
                        go_ret
                        exact ⟨rfl, HB3.out.trans (HB6.out.mono hw0r)⟩
                      · rw [if_neg hKJ] at hST
                        subst hST
                        rw [decide_eq_false hKJ]
                        clear hst
                        go_wp2
                        go_ret
                        exact ⟨rfl, HB3.out.trans (HB6.out.mono hw0r)⟩
                    · have ht0f : (tn == 0) = false := by simpa using ht0
                      by_cases hKJ : K = J
                      · rw [if_pos hKJ] at hST
                        subst hST
                        rw [decide_eq_true hKJ]
                        obtain ⟨gb, eb, hgb, hcb⟩ := HBG.out j hjl
                        cases eb
                        rw [hJ] at hcb
                        have hcb6 := (HB6.out.cell (p := ⟨gb, j, none⟩) hgb).trans hcb
                        have hKJi : ((K : Int) == (J : Int)) = true := by simp; omega
                        clear hst hcb
                        go_wp2
                        go_ret
                        exact ⟨rfl, HB3.out.trans (HB6.out.mono hw0r)⟩
                      · rw [if_neg hKJ] at hST
                        subst hST
                        rw [decide_eq_false hKJ]
                        have hKN3 : K < (frs L).length := by rw [HNN.out]; omega
                        obtain ⟨x, hx0, hx1⟩ : ∃ x : UInt8, x ≠ 0 ∧ tn = (x.toNat : Int) := by
                          have e : (UInt8.ofNat tn.toNat).toNat = tn.toNat := by rw [UInt8.toNat_ofNat']; omega
                          refine ⟨UInt8.ofNat tn.toNat, fun e0 => ?_, by omega⟩
                          rw [e0] at e
                          have : (0 : UInt8).toNat = 0 := rfl
                          omega
                        have hturn := scan_turn L HLS.out j K (by omega) (by omega) (by omega) x hx0 hKN3
                        have hSD : S.data.toList = frs L := by rw [← HSS.out, tx_data]
                        have hnl : K < S.data.toList.length := by rw [hSD]; exact hKN3
                        obtain ⟨cc, hcc⟩ : ∃ cc, cc = S.data.toList[K] := ⟨_, rfl⟩
                        have hcc2 : cc = (frs L)[K] := by rw [hcc]; congr 1
                        obtain ⟨y, hy⟩ : ∃ y, y = cc ^^^ x := ⟨_, rfl⟩
                        obtain ⟨v, hv⟩ : ∃ v : ByteArray, v = ⟨(S.data.toList.set K y).toArray⟩ := ⟨_, rfl⟩
                        have hxor : bits .xor .u8 (cc.toNat : Int) (x.toNat : Int) = (y.toNat : Int) := by rw [hy]; exact xor8_is cc x
                        have hvt : tx ((frs L).set K ((frs L)[K] ^^^ x)) = v := by rw [hv, hSD, hy, hcc2]; rfl
                        have kS2 := fun w ht => scan_is ((frs L).set K ((frs L)[K] ^^^ x)) (C.take j) ((Fr.start L j : Nat) : Int) 3 w (by rw [List.length_set, HNN.out]; omega) ht (by show txL _ = _; rw [hturn]; exact HTX.out j) (by show _ = _; rw [hturn]) (by show _ = _; rw [hturn]; rfl)
                        rw [hvt, hJ] at kS2
                        obtain ⟨cap, w7, hcap, hconv, hcell7, hfree7, hback, hb7⟩ := turned_text Tryd.prog 9 28 5 Tryd.underlying9 Tryd.underlying28 Tryd.underlying5 S v K hnl y hv w6
                        rw [← hcc] at hcell7
                        rw [hSz] at hconv hback
                        have HBS := Lib.hid (HB6.out.trans (hb7.mono HB6.out.size))
                        have HT7 := Lib.hid (T6.out.below hb7 (by have := T6.out.room; omega))
                        have Sh7 := Sh6.below hb7
                        have HBG2 := HBG.out j hjl
                        obtain ⟨gb, eb, hgb, hcb⟩ := HBG2
                        cases eb
                        rw [hJ] at hcb
                        have hcb6 := (HB6.out.cell (p := ⟨gb, j, none⟩) hgb).trans hcb
                        have HCB := Lib.hid hcb
                        have hKJi : ((K : Int) == (J : Int)) = false := by simp; omega
                        have hJJ : ((J : Int) == (J : Int)) = true := by simp
                        subst hx1
                        clear hturn hSD hnl hcc hcc2 hy hv hvt hb7 hcb hcap Sh6
                        go_wp2_with (first
                          | (go_at_call 18; (with_reducible refine (kS2 _ HT7.out).mono ?_); rintro e w8 ⟨v8, rfl, hR8, hb8⟩; obtain ⟨a9, c9, rfl⟩ := hR8.slice; rw [htl] at hR8 ⊢; have Sh8 := Sh7.below hb8; have S8 := hR8.ss; have hB8 := HBS.out.trans (hb8.mono HBS.out.size))
                          | (go_at_call 20; (with_reducible refine (q1 _ _ _ S8 Sh8).mono ?_); rintro e w9 ⟨rfl, hb9⟩; have hB9 := hB8.trans (hb9.mono hB8.size); have hcb9 := (hB9.cell (p := ⟨gb, j, none⟩) hgb).trans HCB.out))
                        go_ret
                        exact ⟨rfl, HB3.out.trans (hB9.mono hw0r)⟩
            · have hjli : ¬ (j : Int) < (C.length : Int) := by omega
              have hjE := Lib.hid (show j = C.length by omega)
              have hhi : j < L.length → K < Fr.start L (j + 1) := fun h => by omega
              have hcut := cut_at L HL7.out K j (by omega) hjK.out hhi (by rw [HNN.out]; omega)
              have hex : S.extract 0 K = tx ((frs L).take K) := by rw [← HSS.out, tx_part]; simp
              obtain ⟨U, hU⟩ : ∃ U, tx ((frs L).take K) = U := ⟨_, rfl⟩
              rw [hU] at hex
              have hEA := edgeB_all L K j (by omega) hjK.out hhi
              rw [hLl] at hEA
              obtain ⟨ST, hST⟩ : ∃ st : Nat, (if K = Fr.start L j then 1 else 2) = st := ⟨_, rfl⟩
              rw [hST] at hcut
              have kS1 := fun w ht => scan_is ((frs L).take K) (C.take j) ((Fr.start L j : Nat) : Int) (ST : Int) w (by rw [List.length_take, HNN.out]; omega) ht (by show txL _ = _; rw [hcut]; exact HTX.out j) (by show _ = _; rw [hcut]) (by show _ = _; rw [hcut])
              rw [hU] at kS1
              obtain ⟨vh, ⟨hh1, hh2⟩, Sh⟩ := HMM.out.cutHead j hj
              have htl : (C.take j).length = j := by rw [List.length_take]; omega
              have q1 := fun v1 v2 w (h1 : Ss w v1 (C.take j)) (h2 : Ss w v2 (C.take j)) => same_is v1 v2 (C.take j) (C.take j) w h1 h2
              rw [sameS_self] at q1
              have hKNi : (K : Int) ≤ (N : Int) := by omega
              obtain ⟨J, hJ⟩ : ∃ J, Fr.start L j = J := ⟨_, rfl⟩
              have hJK := hjK.out
              rw [hJ] at kS1 hJK hEA hST
              have hJKi : ¬ (K : Int) < (J : Int) := by omega
              have hK0 : ((K : Int) == 0) = decide (K = 0) := by
                by_cases h : K = 0
                · subst h; rfl
                · rw [decide_eq_false h]; simp; exact h
              have HEA := Lib.hid hEA
              clear hcut hU hhi hEA
              go_wp2_with (first
                | (go_at_call 18; (with_reducible refine (kS1 _ HT3.out).mono ?_); rintro e w5 ⟨v5, rfl, hR5, hb5⟩; obtain ⟨a5, c5, rfl⟩ := hR5.slice; rw [htl] at hR5 ⊢; have Sh5 := Sh.below hb5; have S5 := hR5.ss)
                | (go_at_call 20; (with_reducible refine (q1 _ _ _ S5 Sh5).mono ?_); rintro e w6 ⟨rfl, hb6⟩; have Sh6 := Sh5.below hb6))
              have HB6 := Lib.hid (hb5.trans (hb6.mono hb5.size))
              have T6 := Lib.hid (HT3.out.next (hb5.trans (hb6.mono hb5.size)))
              clear hb5 hb6 kS1 hex Sh S5 Sh5 hR5
              go_loop [22, 23] (fun e i => ∃ i' : Nat, i = .int .i64 (i' : Int) ∧ i' ≤ C.length ∧ e = .bool (edgeB L K i')) (fun _ i => C.length - (intOf i).toNat)
              case atStart => exact ⟨0, rfl, Nat.zero_le _, by rw [edgeB_zero]⟩
              case round =>
                obtain ⟨i', rfl, hi, rfl⟩ := hrel
                by_cases hil : i' < C.length
                · have hili : (i' : Int) < (C.length : Int) := by omega
                  obtain ⟨g3, e3, hg3, hcell3⟩ := HE.out i' hil
                  cases e3
                  have hcell6 := (HB6.out.cell (p := ⟨g3, i', none⟩) hg3).trans hcell3
                  have HES := Lib.hid (edgeB_succ L K i')
                  obtain ⟨e2, he2⟩ : ∃ e, Fr.start L (i' + 1) = e := ⟨_, rfl⟩
                  rw [he2] at hcell6 HES
                  clear hcell3 he2
                  cases hb : edgeB L K i' with
                  | true =>
                    rw [hb] at HES
                    clear hb
                    go_wp2
                    go_round
                    case rel => exact ⟨i' + 1, by go_num, by omega, by rw [HES.out]; rfl⟩
                    case measure => simp [intOf]; omega
                  | false =>
                    rw [hb] at HES
                    clear hb
                    by_cases hq : e2 = K
                    · have hqi : ((e2 : Int) == (K : Int)) = true := by simp; omega
                      rw [decide_eq_true hq] at HES
                      clear hq
                      go_wp2
                      go_round
                      case rel => exact ⟨i' + 1, by go_num, by omega, by rw [HES.out]; rfl⟩
                      case measure => simp [intOf]; omega
                    · have hqi : ((e2 : Int) == (K : Int)) = false := by simp; omega
                      rw [decide_eq_false hq] at HES
                      clear hq
                      go_wp2
                      go_round
                      case rel => exact ⟨i' + 1, by go_num, by omega, by rw [HES.out]; rfl⟩
                      case measure => simp [intOf]; omega
                · have hili : ¬ (i' : Int) < (C.length : Int) := by omega
                  obtain rfl : i' = C.length := by omega
                  rw [HEA.out]
                  clear hK0 HEA
                  have hJN : J = N := by
                    have h1 := start_all L
                    rw [HNN.out, hLl] at h1
                    rw [← hJ, hjE.out]
                    exact h1
                  obtain rfl : K = N := by omega
                  subst hJN
                  rw [if_pos rfl] at hST
                  subst hST
                  rw [decide_eq_true (show J = J from rfl)]
                  go_wp2
                  go_ret
                  exact ⟨rfl, HB3.out.trans (HB6.out.mono hw0r)⟩
        · skip
          go_wp2
          go_loop [17] (fun b => ∃ j : Nat, b = .int .i64 (j : Int) ∧ j ≤ C.length ∧ Hid (Fr.start L j ≤ K)) (fun b => C.length - (intOf b).toNat)
          case atStart => exact ⟨0, rfl, Nat.zero_le _, Lib.hid (Nat.zero_le _)⟩
          case round =>
            obtain ⟨j, rfl, hj, hjK⟩ := hrel
            by_cases hjl : j < C.length
            · have hjli : (j : Int) < (C.length : Int) := by omega
              obtain ⟨g, e3, hg, hcell⟩ := HE.out j hjl
              cases e3
              by_cases hst : Fr.start L (j + 1) ≤ K
              · have hsti : ((Fr.start L (j + 1) : Nat) : Int) ≤ (K : Int) := by omega
                have HST := Lib.hid hst
                obtain ⟨e2, he2⟩ : ∃ e, Fr.start L (j + 1) = e := ⟨_, rfl⟩
                rw [he2] at hcell hsti
                clear he2 hst
                go_wp2
                go_round
                case rel => exact ⟨j + 1, by go_num, by omega, HST⟩
                case measure => simp [intOf]; omega
              · have hsti : ¬ ((Fr.start L (j + 1) : Nat) : Int) ≤ (K : Int) := by omega
                have HNL := Lib.hid hst
                have hhi : j < L.length → K < Fr.start L (j + 1) := fun h => by omega
                have hcut := cut_at L HL7.out K j (by omega) hjK.out hhi (by rw [HNN.out]; omega)
                have hex : S.extract 0 K = tx ((frs L).take K) := by rw [← HSS.out, tx_part]; simp
                obtain ⟨U, hU⟩ : ∃ U, tx ((frs L).take K) = U := ⟨_, rfl⟩
                rw [hU] at hex
                have hEA := edgeB_all L K j (by omega) hjK.out hhi
                rw [hLl] at hEA
                obtain ⟨ST, hST⟩ : ∃ st : Nat, (if K = Fr.start L j then 1 else 2) = st := ⟨_, rfl⟩
                rw [hST] at hcut
                have kS1 := fun w ht => scan_is ((frs L).take K) (C.take j) ((Fr.start L j : Nat) : Int) (ST : Int) w (by rw [List.length_take, HNN.out]; omega) ht (by show txL _ = _; rw [hcut]; exact HTX.out j) (by show _ = _; rw [hcut]) (by show _ = _; rw [hcut])
                rw [hU] at kS1
                obtain ⟨vh, ⟨hh1, hh2⟩, Sh⟩ := HMM.out.cutHead j hj
                have htl : (C.take j).length = j := by rw [List.length_take]; omega
                have q1 := fun v1 v2 w (h1 : Ss w v1 (C.take j)) (h2 : Ss w v2 (C.take j)) => same_is v1 v2 (C.take j) (C.take j) w h1 h2
                rw [sameS_self] at q1
                have hKNi : (K : Int) ≤ (N : Int) := by omega
                obtain ⟨J, hJ⟩ : ∃ J, Fr.start L j = J := ⟨_, rfl⟩
                have hJK := hjK.out
                rw [hJ] at kS1 hJK hEA hST
                have hJKi : ¬ (K : Int) < (J : Int) := by omega
                have hK0 : ((K : Int) == 0) = decide (K = 0) := by
                  by_cases h : K = 0
                  · subst h; rfl
                  · rw [decide_eq_false h]; simp; exact h
                have HEA := Lib.hid hEA
                clear hcut hU hhi hEA
                go_wp2_with (first
                  | (go_at_call 18; (with_reducible refine (kS1 _ HT3.out).mono ?_); rintro e w5 ⟨v5, rfl, hR5, hb5⟩; obtain ⟨a5, c5, rfl⟩ := hR5.slice; rw [htl] at hR5 ⊢; have Sh5 := Sh.below hb5; have S5 := hR5.ss)
                  | (go_at_call 20; (with_reducible refine (q1 _ _ _ S5 Sh5).mono ?_); rintro e w6 ⟨rfl, hb6⟩; have Sh6 := Sh5.below hb6))
                have HB6 := Lib.hid (hb5.trans (hb6.mono hb5.size))
                have T6 := Lib.hid (HT3.out.next (hb5.trans (hb6.mono hb5.size)))
                clear hb5 hb6 kS1 hex Sh S5 Sh5 hR5
                go_loop [22, 23] (fun e i => ∃ i' : Nat, i = .int .i64 (i' : Int) ∧ i' ≤ C.length ∧ e = .bool (edgeB L K i')) (fun _ i => C.length - (intOf i).toNat)
                case atStart => exact ⟨0, rfl, Nat.zero_le _, by rw [edgeB_zero]⟩
                case round =>
                  obtain ⟨i', rfl, hi, rfl⟩ := hrel
                  by_cases hil : i' < C.length
                  · have hili : (i' : Int) < (C.length : Int) := by omega
                    obtain ⟨g3, e3, hg3, hcell3⟩ := HE.out i' hil
                    cases e3
                    have hcell6 := (HB6.out.cell (p := ⟨g, i', none⟩) hg3).trans hcell3
                    have HES := Lib.hid (edgeB_succ L K i')
                    obtain ⟨e2, he2⟩ : ∃ e, Fr.start L (i' + 1) = e := ⟨_, rfl⟩
                    rw [he2] at hcell6 HES
                    clear hcell3 he2
                    cases hb : edgeB L K i' with
                    | true =>
                      rw [hb] at HES
                      clear hb
                      go_wp2
                      go_round
                      case rel => exact ⟨i' + 1, by go_num, by omega, by rw [HES.out]; rfl⟩
                      case measure => simp [intOf]; omega
                    | false =>
                      rw [hb] at HES
                      clear hb
                      by_cases hq : e2 = K
                      · have hqi : ((e2 : Int) == (K : Int)) = true := by simp; omega
                        rw [decide_eq_true hq] at HES
                        clear hq
                        go_wp2
                        go_round
                        case rel => exact ⟨i' + 1, by go_num, by omega, by rw [HES.out]; rfl⟩
                        case measure => simp [intOf]; omega
                      · have hqi : ((e2 : Int) == (K : Int)) = false := by simp; omega
                        rw [decide_eq_false hq] at HES
                        clear hq
                        go_wp2
                        go_round
                        case rel => exact ⟨i' + 1, by go_num, by omega, by rw [HES.out]; rfl⟩
                        case measure => simp [intOf]; omega
                  · have hili : ¬ (i' : Int) < (C.length : Int) := by omega
                    obtain rfl : i' = C.length := by omega
                    rw [HEA.out]
                    clear hK0 HEA
                    have hKN2 : K < N := by
                      have h1 := start_mono L (show j + 1 ≤ L.length by omega) (Nat.le_refl _)
                      rw [start_all, HNN.out] at h1
                      omega
                    have hKNf : ((K : Int) == (N : Int)) = false := by simp; omega
                    by_cases ht0 : tn = 0
                    · subst ht0
                      by_cases hKJ : K = J
                      · rw [if_pos hKJ] at hST
                        subst hST
                        rw [decide_eq_true hKJ]
                        clear hst
                        go_wp2
                        go_ret
                        exact ⟨rfl, HB3.out.trans (HB6.out.mono hw0r)⟩
                      · rw [if_neg hKJ] at hST
                        subst hST
                        rw [decide_eq_false hKJ]
                        clear hst
                        go_wp2
                        go_ret
                        exact ⟨rfl, HB3.out.trans (HB6.out.mono hw0r)⟩
                    · have ht0f : (tn == 0) = false := by simpa using ht0
                      by_cases hKJ : K = J
                      · rw [if_pos hKJ] at hST
                        subst hST
                        rw [decide_eq_true hKJ]
                        obtain ⟨gb, eb, hgb, hcb⟩ := HBG.out j hjl
                        cases eb
                        rw [hJ] at hcb
                        have hcb6 := (HB6.out.cell (p := ⟨gb, j, none⟩) hgb).trans hcb
                        have hKJi : ((K : Int) == (J : Int)) = true := by simp; omega
                        clear hst hcb
                        go_wp2
                        go_ret
                        exact ⟨rfl, HB3.out.trans (HB6.out.mono hw0r)⟩
                      · rw [if_neg hKJ] at hST
                        subst hST
                        rw [decide_eq_false hKJ]
                        have hKN3 : K < (frs L).length := by rw [HNN.out]; omega
                        obtain ⟨x, hx0, hx1⟩ : ∃ x : UInt8, x ≠ 0 ∧ tn = (x.toNat : Int) := by
                          have e : (UInt8.ofNat tn.toNat).toNat = tn.toNat := by rw [UInt8.toNat_ofNat']; omega
                          refine ⟨UInt8.ofNat tn.toNat, fun e0 => ?_, by omega⟩
                          rw [e0] at e
                          have : (0 : UInt8).toNat = 0 := rfl
                          omega
                        have hturn := scan_turn L HLS.out j K (by omega) (by omega) (by omega) x hx0 hKN3
                        have hSD : S.data.toList = frs L := by rw [← HSS.out, tx_data]
                        have hnl : K < S.data.toList.length := by rw [hSD]; exact hKN3
                        obtain ⟨cc, hcc⟩ : ∃ cc, cc = S.data.toList[K] := ⟨_, rfl⟩
                        have hcc2 : cc = (frs L)[K] := by rw [hcc]; congr 1
                        obtain ⟨y, hy⟩ : ∃ y, y = cc ^^^ x := ⟨_, rfl⟩
                        obtain ⟨v, hv⟩ : ∃ v : ByteArray, v = ⟨(S.data.toList.set K y).toArray⟩ := ⟨_, rfl⟩
                        have hxor : bits .xor .u8 (cc.toNat : Int) (x.toNat : Int) = (y.toNat : Int) := by rw [hy]; exact xor8_is cc x
                        have hvt : tx ((frs L).set K ((frs L)[K] ^^^ x)) = v := by rw [hv, hSD, hy, hcc2]; rfl
                        have kS2 := fun w ht => scan_is ((frs L).set K ((frs L)[K] ^^^ x)) (C.take j) ((Fr.start L j : Nat) : Int) 3 w (by rw [List.length_set, HNN.out]; omega) ht (by show txL _ = _; rw [hturn]; exact HTX.out j) (by show _ = _; rw [hturn]) (by show _ = _; rw [hturn]; rfl)
                        rw [hvt, hJ] at kS2
                        obtain ⟨cap, w7, hcap, hconv, hcell7, hfree7, hback, hb7⟩ := turned_text Tryd.prog 9 28 5 Tryd.underlying9 Tryd.underlying28 Tryd.underlying5 S v K hnl y hv w6
                        rw [← hcc] at hcell7
                        rw [hSz] at hconv hback
                        have HBS := Lib.hid (HB6.out.trans (hb7.mono HB6.out.size))
                        have HT7 := Lib.hid (T6.out.below hb7 (by have := T6.out.room; omega))
                        have Sh7 := Sh6.below hb7
                        have HBG2 := HBG.out j hjl
                        obtain ⟨gb, eb, hgb, hcb⟩ := HBG2
                        cases eb
                        rw [hJ] at hcb
                        have hcb6 := (HB6.out.cell (p := ⟨gb, j, none⟩) hgb).trans hcb
                        have HCB := Lib.hid hcb
                        have hKJi : ((K : Int) == (J : Int)) = false := by simp; omega
                        have hJJ : ((J : Int) == (J : Int)) = true := by simp
                        subst hx1
                        clear hturn hSD hnl hcc hcc2 hy hv hvt hb7 hcb hcap Sh6
                        go_wp2_with (first
                          | (go_at_call 18; (with_reducible refine (kS2 _ HT7.out).mono ?_); rintro e w8 ⟨v8, rfl, hR8, hb8⟩; obtain ⟨a9, c9, rfl⟩ := hR8.slice; rw [htl] at hR8 ⊢; have Sh8 := Sh7.below hb8; have S8 := hR8.ss; have hB8 := HBS.out.trans (hb8.mono HBS.out.size))
                          | (go_at_call 20; (with_reducible refine (q1 _ _ _ S8 Sh8).mono ?_); rintro e w9 ⟨rfl, hb9⟩; have hB9 := hB8.trans (hb9.mono hB8.size); have hcb9 := (hB9.cell (p := ⟨gb, j, none⟩) hgb).trans HCB.out))
                        go_ret
                        exact ⟨rfl, HB3.out.trans (hB9.mono hw0r)⟩
            · have hjli : ¬ (j : Int) < (C.length : Int) := by omega
              have hjE := Lib.hid (show j = C.length by omega)
              have hhi : j < L.length → K < Fr.start L (j + 1) := fun h => by omega
              have hcut := cut_at L HL7.out K j (by omega) hjK.out hhi (by rw [HNN.out]; omega)
              have hex : S.extract 0 K = tx ((frs L).take K) := by rw [← HSS.out, tx_part]; simp
              obtain ⟨U, hU⟩ : ∃ U, tx ((frs L).take K) = U := ⟨_, rfl⟩
              rw [hU] at hex
              have hEA := edgeB_all L K j (by omega) hjK.out hhi
              rw [hLl] at hEA
              obtain ⟨ST, hST⟩ : ∃ st : Nat, (if K = Fr.start L j then 1 else 2) = st := ⟨_, rfl⟩
              rw [hST] at hcut
              have kS1 := fun w ht => scan_is ((frs L).take K) (C.take j) ((Fr.start L j : Nat) : Int) (ST : Int) w (by rw [List.length_take, HNN.out]; omega) ht (by show txL _ = _; rw [hcut]; exact HTX.out j) (by show _ = _; rw [hcut]) (by show _ = _; rw [hcut])
              rw [hU] at kS1
              obtain ⟨vh, ⟨hh1, hh2⟩, Sh⟩ := HMM.out.cutHead j hj
              have htl : (C.take j).length = j := by rw [List.length_take]; omega
              have q1 := fun v1 v2 w (h1 : Ss w v1 (C.take j)) (h2 : Ss w v2 (C.take j)) => same_is v1 v2 (C.take j) (C.take j) w h1 h2
              rw [sameS_self] at q1
              have hKNi : (K : Int) ≤ (N : Int) := by omega
              obtain ⟨J, hJ⟩ : ∃ J, Fr.start L j = J := ⟨_, rfl⟩
              have hJK := hjK.out
              rw [hJ] at kS1 hJK hEA hST
              have hJKi : ¬ (K : Int) < (J : Int) := by omega
              have hK0 : ((K : Int) == 0) = decide (K = 0) := by
                by_cases h : K = 0
                · subst h; rfl
                · rw [decide_eq_false h]; simp; exact h
              have HEA := Lib.hid hEA
              clear hcut hU hhi hEA
              go_wp2_with (first
                | (go_at_call 18; (with_reducible refine (kS1 _ HT3.out).mono ?_); rintro e w5 ⟨v5, rfl, hR5, hb5⟩; obtain ⟨a5, c5, rfl⟩ := hR5.slice; rw [htl] at hR5 ⊢; have Sh5 := Sh.below hb5; have S5 := hR5.ss)
                | (go_at_call 20; (with_reducible refine (q1 _ _ _ S5 Sh5).mono ?_); rintro e w6 ⟨rfl, hb6⟩; have Sh6 := Sh5.below hb6))
              have HB6 := Lib.hid (hb5.trans (hb6.mono hb5.size))
              have T6 := Lib.hid (HT3.out.next (hb5.trans (hb6.mono hb5.size)))
              clear hb5 hb6 kS1 hex Sh S5 Sh5 hR5
              go_loop [22, 23] (fun e i => ∃ i' : Nat, i = .int .i64 (i' : Int) ∧ i' ≤ C.length ∧ e = .bool (edgeB L K i')) (fun _ i => C.length - (intOf i).toNat)
              case atStart => exact ⟨0, rfl, Nat.zero_le _, by rw [edgeB_zero]⟩
              case round =>
                obtain ⟨i', rfl, hi, rfl⟩ := hrel
                by_cases hil : i' < C.length
                · have hili : (i' : Int) < (C.length : Int) := by omega
                  obtain ⟨g3, e3, hg3, hcell3⟩ := HE.out i' hil
                  cases e3
                  have hcell6 := (HB6.out.cell (p := ⟨g3, i', none⟩) hg3).trans hcell3
                  have HES := Lib.hid (edgeB_succ L K i')
                  obtain ⟨e2, he2⟩ : ∃ e, Fr.start L (i' + 1) = e := ⟨_, rfl⟩
                  rw [he2] at hcell6 HES
                  clear hcell3 he2
                  cases hb : edgeB L K i' with
                  | true =>
                    rw [hb] at HES
                    clear hb
                    go_wp2
                    go_round
                    case rel => exact ⟨i' + 1, by go_num, by omega, by rw [HES.out]; rfl⟩
                    case measure => simp [intOf]; omega
                  | false =>
                    rw [hb] at HES
                    clear hb
                    by_cases hq : e2 = K
                    · have hqi : ((e2 : Int) == (K : Int)) = true := by simp; omega
                      rw [decide_eq_true hq] at HES
                      clear hq
                      go_wp2
                      go_round
                      case rel => exact ⟨i' + 1, by go_num, by omega, by rw [HES.out]; rfl⟩
                      case measure => simp [intOf]; omega
                    · have hqi : ((e2 : Int) == (K : Int)) = false := by simp; omega
                      rw [decide_eq_false hq] at HES
                      clear hq
                      go_wp2
                      go_round
                      case rel => exact ⟨i' + 1, by go_num, by omega, by rw [HES.out]; rfl⟩
                      case measure => simp [intOf]; omega
                · have hili : ¬ (i' : Int) < (C.length : Int) := by omega
                  obtain rfl : i' = C.length := by omega
                  rw [HEA.out]
                  clear hK0 HEA
                  have hJN : J = N := by
                    have h1 := start_all L
                    rw [HNN.out, hLl] at h1
                    rw [← hJ, hjE.out]
                    exact h1
                  obtain rfl : K = N := by omega
                  subst hJN
                  rw [if_pos rfl] at hST
                  subst hST
                  rw [decide_eq_true (show J = J from rfl)]
                  go_wp2
                  go_ret
                  exact ⟨rfl, HB3.out.trans (HB6.out.mono hw0r)⟩
end Go.Proofs.YtanlnoephhjhhaaDoor.frameCuts

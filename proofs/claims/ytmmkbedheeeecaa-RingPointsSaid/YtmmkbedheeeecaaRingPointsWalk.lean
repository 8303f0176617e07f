/- The walk of RingPoints. -/
import Derived.Test.YtmmkbedheeeecaaRingLaw2
import Derived.BigQuiet
set_option maxRecDepth 20000
set_option linter.unusedSimpArgs false
namespace Go.Proofs.Ytmmkbedheeeecaa.ringPoints
open Go.RowKit Go.Proofs.Ytmmkbedheeeecaa

/-- Sixteen counters in a row. -/
def Cnt (w : World) (b : Nat) (f : Nat → Nat) : Prop := b < w.heap.size ∧ ∀ j, j < 16 → w.cell? ⟨b, j, none⟩ = some (.int .i64 (f j : Int)) ∧ w.frozen? ⟨b, j, none⟩ = false
theorem Cnt.later {w w' : World} {b : Nat} {f : Nat → Nat} (h : Cnt w b f) (k : Below w.heap.size w w') : Cnt w' b f :=
  ⟨Nat.lt_of_lt_of_le h.1 k.size, fun j hj => ⟨(k.cell (p := ⟨b, j, none⟩) h.1).trans (h.2 j hj).1, (k.frozen (p := ⟨b, j, none⟩) h.1).trans (h.2 j hj).2⟩⟩
theorem Cnt.put {w : World} {b i : Nat} {f g : Nat → Nat} {v : Int} (h : Cnt w b f) (hi : i < 16) (hg : ∀ j, g j = if j = i then v.toNat else f j) (hv : 0 ≤ v) : Cnt (w.setCell ⟨b, i, none⟩ (.int .i64 v)) b g := by
  refine ⟨by simpa using h.1, fun j hj => ⟨?_, by rw [World.frozen?_setCell]; exact (h.2 j hj).2⟩⟩
  by_cases e : j = i
  · subst e
    rw [hg, if_pos rfl, show ((v.toNat : Nat) : Int) = v by omega]
    exact World.cell?_setCell_same' _ _ _ (by rw [(h.2 j hj).1]; rfl)
  · rw [hg, if_neg e, World.cell?_setCell_other _ _ _ _ (by intro e'; injection e' with _ e2; omega)]
    exact (h.2 j hj).1
def cntF (P : List Pt) (i : Nat) (j : Nat) : Nat := cntP (j : Int) (P.take i)
theorem cntF_zero (P : List Pt) (j : Nat) : cntF P 0 j = 0 := rfl
theorem cntF_next {P : List Pt} {i n : Nat} {p : Pt} (hi : i < P.length) (hp : P[i] = p) (hn : p.n = (n : Int)) (j : Nat) : cntF P (i + 1) j = if j = n then cntF P i n + 1 else cntF P i j := by
  unfold cntF
  rw [show P.take (i + 1) = P.take i ++ [p] by rw [List.take_add_one, List.getElem?_eq_getElem hi, hp]; rfl, cntP_snoc, hn]
  by_cases e : j = n
  · subst e; simp
  · rw [if_neg (by omega), if_neg e]; rfl
theorem cntF_le (P : List Pt) (i j : Nat) : cntF P i j ≤ P.length := by
  unfold cntF cntP
  exact Nat.le_trans (List.length_filter_le _ _) (by rw [List.length_take]; omega)
def lastA (P : List Pt) (i : Nat) : Int := match P[i - 1]? with | some p => if i = 0 then 0 else p.a | none => 0
def fstF (P : List Pt) (h : Int) (i : Nat) : Int := fstN (P.take i) h
theorem cnt_new (w : World) (P : List Pt) : Cnt (w.alloc (.cells #[.int .i64 0, .int .i64 0, .int .i64 0, .int .i64 0, .int .i64 0, .int .i64 0, .int .i64 0, .int .i64 0, .int .i64 0, .int .i64 0, .int .i64 0, .int .i64 0, .int .i64 0, .int .i64 0, .int .i64 0, .int .i64 0] 51)) w.heap.size (cntF P 0) := by
  have R := World.ownsRow_lit (base := 0) (e := 51) (size := 1) w #[.int .i64 0, .int .i64 0, .int .i64 0, .int .i64 0, .int .i64 0, .int .i64 0, .int .i64 0, .int .i64 0, .int .i64 0, .int .i64 0, .int .i64 0, .int .i64 0, .int .i64 0, .int .i64 0, .int .i64 0, .int .i64 0] 16 (Nat.zero_le _) (by unfold maxLen; omega) rfl
  refine ⟨by simp, fun j hj => ⟨?_, World.ownsRow.frozenAt R j⟩⟩
  rw [World.ownsRow.cellAt R j (by omega)]
  show (List.replicate 16 (Value.int .i64 0))[j]? = _
  rw [List.getElem?_replicate, if_pos hj]; rfl
theorem lastA_zero (P : List Pt) : lastA P 0 = 0 := by unfold lastA; split <;> rfl
theorem lastA_next {P : List Pt} {k : Nat} {p : Pt} (hk : k < P.length) (hp : P[k] = p) : lastA P (k + 1) = p.a := by
  unfold lastA; rw [show k + 1 - 1 = k by omega, List.getElem?_eq_getElem hk, hp]; rfl
theorem lastA_le {P : List Pt} (hs : Rises P) (h0 : ∀ p ∈ P, 0 ≤ p.a) {k : Nat} (hk : k < P.length) : lastA P k ≤ P[k].a := by
  unfold lastA
  rw [List.getElem?_eq_getElem (by omega)]
  dsimp only
  by_cases e : k = 0
  · subst e; exact h0 _ (List.getElem_mem _)
  · rw [if_neg e]; exact hs (k - 1) k (by omega) hk (by omega)
theorem take_pt' {P : List Pt} {i : Nat} {p : Pt} (hi : i < P.length) (hp : P[i] = p) : P.take (i + 1) = P.take i ++ [p] := by rw [List.take_add_one, List.getElem?_eq_getElem hi, hp]; rfl
theorem cnt_all {N : List Int} (hN : N.Nodup) {n : Int} (h : n ∈ N) : cntP n (srt (ptsL N)) = 8 := by rw [cntP_perm (srt_perm _), cntP_pts hN, if_pos h]
theorem cntF_end (P : List Pt) (k : Nat) (hk : P.length ≤ k) (j : Nat) : cntF P k j = cntP (j : Int) P := by unfold cntF; rw [List.take_of_length_le hk]
theorem pref_one {P : List Pt} {h : Int} {p : Pt} (hP : ∀ p ∈ P, 0 ≤ p.n) (h0 : 0 < P.length) (hp : P[0] = p) : preferL P h 1 = [if fstN P h < 0 then p.n else fstN P h] := by
  rw [prefer_one hP]
  cases P with
  | nil => simp at h0
  | cons q t => simp at hp; subst hp; rfl
set_option maxHeartbeats 8000000 in
theorem walk (a0 : Option Addr) (len0 cap0 : Nat) (key : ByteArray) (w : World) (h0 : ArgInts w a0 len0 cap0) (hkey : key.size ≤ maxLen) :
    Calls Try.prog 7 #[.slice a0 len0 cap0, .string key] w fun e w' => e = .returned (.bool true) ∧ Below w.heap.size w w' := by
  have ka := awake_is w
  have kf := fun W k => few2_is h0 W k
  clear h0
  obtain ⟨t, ht⟩ : ∃ t, cutB key 100 = t := ⟨_, rfl⟩
  have htm : t.size ≤ maxLen := by rw [← ht]; exact cutB_size key 100 hkey
  have ks := fun W => short_is key t 100 100 W rfl (by omega) (Lib.hid ht)
  have kn := fun v l w h => new_is 1 v l w h
  have kh := fun W => hash_is t W htm
  obtain ⟨h, hh⟩ : ∃ h, hashI t = h := ⟨_, rfl⟩
  rw [hh] at kh
  clear ht hkey
  go_enter Try.func7, Try.ntmps7
  go_upto_region 5 with (first
    | (go_at_call 8; (with_reducible refine ka.mono ?_); rintro e w1 ⟨rfl, hB⟩; (have kf2 := kf w1 hB); (have HB1 := Lib.hid hB); clear hB kf)
    | (go_at_call 12; (with_reducible refine kf2.mono ?_); rintro e w2 ⟨A, aA, na, cA, rfl, hl, hA12, hA, rfl⟩; (have k1 := kn _ A w1 hA); (have HA := Lib.hid hl); clear hA hl kf2)
    | (go_at_call 9; (with_reducible refine (ks _).mono ?_); rintro e w2 ⟨rfl, rfl⟩)
    | (go_at_call 13; (with_reducible refine k1.mono ?_); rintro e w4 ⟨b1, v1, v2, rfl, hR, hB⟩; (have HR4 := Lib.hid hR); (have HB4 := Lib.hid (bel_next HB1.out hB)); clear hR hB k1))
  have HNN := Lib.hid (nodesL_nodup A)
  have HN3 := Lib.hid (nodesL_ok A)
  have HSR := Lib.hid (srt_rises (ptsL (nodesL A)))
  obtain ⟨N, hN⟩ : ∃ N, nodesL A = N := ⟨_, rfl⟩
  rw [hN] at HR4 HNN HN3 HSR
  obtain ⟨P, hP⟩ : ∃ P, srt (ptsL N) = P := ⟨_, rfl⟩
  obtain ⟨nl, hnl⟩ : ∃ nl, N.length = nl := ⟨_, rfl⟩
  have hnl16 : nl ≤ 16 := by rw [← hnl]; exact HN3.out.1
  obtain ⟨al, hal⟩ : ∃ al, nl * 8 = al := ⟨_, rfl⟩
  have hPl : P.length = al := by rw [← hP, srt_len, ptsL_len, hnl, hal]
  have HC8 := Lib.hid (fun n hn => by have := cnt_all HNN.out (n := n) hn; rw [hP] at this; exact this : ∀ n ∈ N, cntP n P = 8)
  rw [hP] at HR4 HSR
  have hwl : IntKind.i64.wrap ((nl : Int) * 8) = (al : Int) := by rw [IntKind.wrap_i64]; omega
  have HPL := Lib.hid hPl
  have HNL := Lib.hid hnl
  have hal128 : al ≤ 128 := by omega
  have HAL := Lib.hid hal
  have kd := fun W k => nodes_is b1 v1 v2 1 N P W (HR4.out.later k)
  have kp := fun W k => prefer_is b1 v1 v2 1 N P t 1 W (HR4.out.later k) HSR.out htm
  have kat := fun i W (k : Below w4.heap.size w4 W) hi => at_yes b1 v1 v2 1 N P i W (HR4.out.later k) hi
  have kno := fun i W (k : Below w4.heap.size w4 W) hi => at_no b1 v1 v2 1 N P i W (HR4.out.later k) hi
  rw [hh] at kp
  have HPOK := Lib.hid HR4.out.pok
  have HF := Lib.hid (show (∀ p ∈ P, 0 ≤ p.n) from fun p hp => (HPOK.out.2 p hp).2.1)
  have HKD := Lib.hid kd
  have HKP := Lib.hid kp
  have HKA := Lib.hid kat
  have HKN := Lib.hid kno
  clear hN hP hnl hal hPl kd kp kat kno ka ks kn hA12 hh
  have hB5 := (Below.refl w4.heap.size w4).alloc (Nat.le_refl _) (.cells #[.int .i64 0, .int .i64 0, .int .i64 0, .int .i64 0, .int .i64 0, .int .i64 0, .int .i64 0, .int .i64 0, .int .i64 0, .int .i64 0, .int .i64 0, .int .i64 0, .int .i64 0, .int .i64 0, .int .i64 0, .int .i64 0] 51)
  have hC5 := cnt_new w4 P
  go_upto_region 8 with fail
  generalize w4.alloc (.cells #[.int .i64 0, .int .i64 0, .int .i64 0, .int .i64 0, .int .i64 0, .int .i64 0, .int .i64 0, .int .i64 0, .int .i64 0, .int .i64 0, .int .i64 0, .int .i64 0, .int .i64 0, .int .i64 0, .int .i64 0, .int .i64 0] 51) = w5 at *
  obtain ⟨b8, hb8⟩ : ∃ b, w4.heap.size = b := ⟨_, rfl⟩
  rw [hb8] at hC5
  rw [show Value.pointer (some ⟨w4.heap.size, 0, none⟩) = Value.pointer (some ⟨b8, 0, none⟩) by rw [hb8]]
  have kd1 := HKD.out w5 hB5
  have HB5 := Lib.hid hB5
  have HC5 := Lib.hid hC5
  have HBE := Lib.hid (Nat.le_of_eq hb8)
  clear hb8 hB5 hC5
  go_upto_region 11 with (first
    | (go_at_call 10; (with_reducible refine (kh _).mono ?_); rintro e w2 ⟨rfl, rfl⟩)
    | (go_at_call 19; (with_reducible refine kd1.mono ?_); rintro e w6 ⟨v6, rfl, hr, hB⟩; (obtain ⟨a6, c6, rfl⟩ := hr.slice); (rw [HNL.out]); (have HB6 := Lib.hid (bel_next HB5.out hB)); (have HC6 := Lib.hid (HC5.out.later hB)); clear hr hB kd1))
  clear kh hwl
  go_loopg [9, 10, 13] al (fun g last first ii wr => ∃ k : Nat, k + g = al ∧ ii = .int .i64 (k : Int) ∧ last = .int .u64 (lastA P k) ∧ first = .int .i64 (fstN (P.take k) h) ∧ Below w4.heap.size w4 wr ∧ Hid (Cnt wr b8 (cntF P k)))
  case atStart => exact ⟨0, by omega, rfl, by rw [lastA_zero], rfl, HB6.out, HC6⟩
  case round =>
    obtain ⟨k, hk, rfl, rfl, rfl, hB, HC⟩ := hrel
    obtain ⟨w7, hw7⟩ : ∃ w7, w7 = wr := ⟨_, rfl⟩
    subst hw7
    obtain ⟨f, hf⟩ : ∃ f, fstN (P.take k) h = f := ⟨_, rfl⟩
    have HFF := Lib.hid hf
    rw [hf]
    have HB7 := Lib.hid hB
    clear hB hf HC6
    cases gk with
    | succ g =>
      have hlt : (k : Int) < (al : Int) := by omega
      have hkP : k < P.length := by rw [HPL.out]; omega
      have k1 := HKA.out k w7 HB7.out hkP
      obtain ⟨p, hp⟩ : ∃ p, P[k] = p := ⟨_, rfl⟩
      have hle : lastA P k ≤ p.a := by rw [← hp]; exact lastA_le HSR.out (fun q hq => (HPOK.out.2 q hq).1.1) hkP
      have HLN := Lib.hid (lastA_next hkP hp)
      have hpn := (HPOK.out.2 p (by rw [← hp]; exact List.getElem_mem _)).2
      obtain ⟨nn, hnn⟩ := Int.eq_ofNat_of_zero_le hpn.1
      have hn15 : nn ≤ 15 := by omega
      have HCN := Lib.hid (fun j => cntF_next hkP hp hnn j)
      have HTK := Lib.hid (take_pt' hkP hp)
      have hcle : cntF P k nn ≤ 128 := Nat.le_trans (cntF_le P k nn) (by rw [HPL.out]; exact hal128)
      rw [hp, hnn] at k1
      have HNP := Lib.hid hnn
      obtain ⟨lst, hlst⟩ : ∃ lst, lastA P k = lst := ⟨_, rfl⟩
      rw [hlst] at hle ⊢
      obtain ⟨cc, hcc⟩ : ∃ cc, cntF P k nn = cc := ⟨_, rfl⟩
      have HCC := Lib.hid hcc
      have HFT := Lib.hid (fun q hq => HF.out q (List.mem_of_mem_take hq) : ∀ q ∈ P.take k, 0 ≤ q.n)
      rw [hcc] at hcle
      clear hp hpn hnn hlst hcc
      obtain ⟨pa, hpa⟩ : ∃ pa, p.a = pa := ⟨_, rfl⟩
      have HPA := Lib.hid hpa
      rw [hpa] at k1 hle
      clear hpa
      go_upto_region 14 with (go_at_call 15; (with_reducible refine k1.mono ?_); rintro e w8 ⟨rfl, hB⟩; (have HC8' := Lib.hid (HC.out.later hB)); (have HB8 := Lib.hid (bel_next HB7.out hB)); clear hB k1 HC HB7)
      have d1 : decide (pa < lst) = false := decide_eq_false (by omega)
      have d2 : decide (15 < nn) = false := decide_eq_false (by omega)
      have d3 : decide ((15 : Int) < (nn : Int)) = false := decide_eq_false (by omega)
      have d4 : decide ((nn : Int) < 0) = false := decide_eq_false (by omega)
      obtain ⟨y1, y2⟩ := HC8'.out.2 nn (by omega)
      rw [HCC.out] at y1
      have hwc : IntKind.i64.wrap ((cc : Int) + 1) = (cc : Int) + 1 := by rw [IntKind.wrap_i64]; omega
      have hn16 : nn < 16 := by omega
      have hn16' : (nn : Int) < 16 := by omega
      clear hle
      by_cases hf0 : f < 0
      · obtain ⟨e1, e2⟩ := fstN_snoc_new p HFT.out (by rw [HFF.out]; exact hf0)
        rw [HFF.out] at e1
        rw [← HTK.out] at e2
        subst e1
        by_cases hc : h ≤ pa
        · have d5 : decide (h ≤ pa) = true := decide_eq_true hc
          have HN := Lib.hid (e2.trans (if_pos (by rw [HPA.out]; exact hc)))
          clear hc e2 hf0
          go_wp2
          go_roundg g
          case measure => omega
          case rel => exact ⟨k + 1, by omega, by go_num, by rw [HLN.out, HPA.out], by first | rw [HN.out, HNP.out] | rw [HN.out], HB8.out.setCell HBE.out _, Lib.hid (HC8'.out.put hn16 (fun j => by rw [HCN.out, HCC.out]; rfl) (by omega))⟩
        · have d5 : decide (h ≤ pa) = false := decide_eq_false hc
          have HN := Lib.hid (e2.trans (if_neg (by rw [HPA.out]; exact hc)))
          clear hc e2 hf0
          go_wp2
          go_roundg g
          case measure => omega
          case rel => exact ⟨k + 1, by omega, by go_num, by rw [HLN.out, HPA.out], by first | rw [HN.out, HNP.out] | rw [HN.out], HB8.out.setCell HBE.out _, Lib.hid (HC8'.out.put hn16 (fun j => by rw [HCN.out, HCC.out]; rfl) (by omega))⟩
      · have d5 : decide (f < 0) = false := decide_eq_false hf0
        have HN := Lib.hid (show fstN (P.take (k + 1)) h = f by rw [HTK.out, fstN_snoc_old p (by rw [HFF.out]; omega), HFF.out])
        clear hf0
        go_wp2
        go_roundg g
        case measure => omega
        case rel => exact ⟨k + 1, by omega, by go_num, by rw [HLN.out, HPA.out], by first | rw [HN.out, HNP.out] | rw [HN.out], HB8.out.setCell HBE.out _, Lib.hid (HC8'.out.put hn16 (fun j => by rw [HCN.out, HCC.out]; rfl) (by omega))⟩
    | zero =>
      obtain rfl : k = al := by omega
      have hlt : ¬ (k : Int) < (k : Int) := by omega
      have HFE := Lib.hid (show fstN P h = f by rw [← HFF.out, List.take_of_length_le (by rw [HPL.out]; exact Nat.le_refl _)])
      have HCE := Lib.hid (fun j => cntF_end P k (by rw [HPL.out]; exact Nat.le_refl _) j)
      have k2 := HKN.out (k : Int) w7 HB7.out (Or.inr (by rw [HPL.out]; exact Int.le_refl _))
      go_upto_region 21 with (go_at_call 15; (with_reducible refine k2.mono ?_); rintro e w8 ⟨rfl, hB⟩; (have HCX := Lib.hid (HC.out.later hB)); (have HB8 := Lib.hid (bel_next HB7.out hB)); clear hB k2 HC HB7)
      have HKK := Lib.hid hk
      by_cases h0 : k = 0
      · have HP0 := Lib.hid (List.eq_nil_of_length_eq_zero (by rw [HPL.out]; exact h0) : P = [])
        have hf1 : f = -1 := by rw [← HFE.out, HP0.out]; rfl
        have hn0 : nl = 0 := by have := HAL.out; omega
        have HPR := Lib.hid (show preferL P h 1 = [] by rw [HP0.out]; rfl)
        have k3 := HKN.out 0 w8 HB8.out (Or.inr (by rw [HPL.out]; omega))
        subst hf1 hn0
        subst h0
        clear HP0
        go_upto_region 25 with (first | (go_at_call 15; (with_reducible refine k3.mono ?_); rintro e w20 ⟨rfl, hB⟩; (have HC9 := Lib.hid (HCX.out.later hB)); (have kd9 := HKD.out w20 (bel_next HB8.out hB)); (have HB20 := Lib.hid (bel_next HB8.out hB)); clear hB k3 HCX HB8) | (go_at_call 19; (with_reducible refine kd9.mono ?_); rintro e w9 ⟨v9, rfl, hr, hB⟩; (have HR9 := Lib.hid hr); (have HBX := Lib.hid (bel_next HB20.out hB)); (have HCY := Lib.hid (HC9.out.later hB)); clear hr hB kd9))
        obtain ⟨a9, c9, rfl⟩ := HR9.out.slice
        rw [HNL.out]
        have HRR := Lib.hid (show IRow w9 _ (.slice a9 0 c9) N by have h := HR9.out; rw [HNL.out] at h; exact h)
        clear HR9
        go_loopg [19] 0 (fun g ii wr => ∃ j : Nat, j + g = 0 ∧ ii = .int .i64 (j : Int) ∧ wr = w9)
        case atStart => exact ⟨0, by omega, rfl, rfl⟩
        case round =>
          obtain ⟨j, hj, rfl, rfl⟩ := hrel
          cases gk with
          | succ g =>
            omega
          | zero =>
            obtain rfl : j = 0 := by omega
            have hjl : ¬ ((0 : Nat) : Int) < ((0 : Nat) : Int) := by omega
            have k4 := HKP.out wr HBX.out
            rw [HPR.out] at k4
            go_wp2_with (go_at_call 21; (with_reducible refine k4.mono ?_); rintro e w10 ⟨v10, rfl, hr, hB⟩; (obtain ⟨a10, c10, rfl⟩ := hr.slice);  (have HB10 := Lib.hid (bel_next HBX.out hB)); clear hr hB k4)
            go_ret
            exact ⟨rfl, bel_next HB4.out HB10.out⟩
      · have h0P : 0 < P.length := by rw [HPL.out]; omega
        obtain ⟨p0, hp0⟩ : ∃ p, P[0] = p := ⟨_, rfl⟩
        have HPR0 := Lib.hid (pref_one (h := h) HF.out h0P hp0)
        rw [HFE.out] at HPR0
        have hnl0 : nl ≠ 0 := by have := HAL.out; omega
        have hnlq : ((nl : Int) == 0) = false := by simp; omega
        by_cases hf0 : f < 0
        · have HPR := Lib.hid (show preferL P h 1 = [p0.n] by rw [HPR0.out, if_pos hf0])
          have k3 := HKA.out 0 w8 HB8.out h0P
          rw [hp0, show ((0 : Nat) : Int) = 0 from rfl] at k3
          have d5 : decide (f < 0) = true := decide_eq_true hf0
          have hq1 : (p0.n == p0.n) = true := by simp
          clear hf0 HPR0 h0P hp0 h0 hnl0
          go_upto_region 25 with (first | (go_at_call 15; (with_reducible refine k3.mono ?_); rintro e w20 ⟨rfl, hB⟩; (have HC9 := Lib.hid (HCX.out.later hB)); (have kd9 := HKD.out w20 (bel_next HB8.out hB)); (have HB20 := Lib.hid (bel_next HB8.out hB)); clear hB k3 HCX HB8) | (go_at_call 19; (with_reducible refine kd9.mono ?_); rintro e w9 ⟨v9, rfl, hr, hB⟩; (have HR9 := Lib.hid hr); (have HBX := Lib.hid (bel_next HB20.out hB)); (have HCY := Lib.hid (HC9.out.later hB)); clear hr hB kd9))
          clear d5
          obtain ⟨a9, c9, rfl⟩ := HR9.out.slice
          rw [HNL.out]
          have HRR := Lib.hid (show IRow w9 _ (.slice a9 nl c9) N by have h := HR9.out; rw [HNL.out] at h; exact h)
          clear HR9
          go_loopg [19] nl (fun g ii wr => ∃ j : Nat, j + g = nl ∧ ii = .int .i64 (j : Int) ∧ wr = w9)
          case atStart => exact ⟨0, by omega, rfl, rfl⟩
          case round =>
            obtain ⟨j, hj, rfl, rfl⟩ := hrel
            cases gk with
            | succ g =>
              have hjl : (j : Int) < ((nl : Nat) : Int) := by omega
              have hjN : j < N.length := by rw [HNL.out]; omega
              obtain ⟨g9, rfl, -, -, hc⟩ := HRR.out.cell (by omega)
              have c1 := hc j hjN
              have hxn := HN3.out.2 N[j] (List.getElem_mem _)
              have h8 := HC8.out N[j] (List.getElem_mem _)
              obtain ⟨x, hx⟩ : ∃ x, N[j] = x := ⟨_, rfl⟩
              rw [hx] at c1 hxn h8
              obtain ⟨xn, rfl⟩ := Int.eq_ofNat_of_zero_le hxn.1
              have hx16 : xn < 16 := by omega
              have hx16' : (xn : Int) < 16 := by omega
              have y := (HCY.out.2 xn hx16).1
              rw [HCE.out, h8] at y
              have y' : wr.cell? ⟨b8, xn, none⟩ = some (.int .i64 8) := y
              clear hc hx hxn h8 y
              go_wp2
              go_roundg g
              case measure => omega
              case rel => exact ⟨j + 1, by omega, by go_num, rfl⟩
            | zero =>
              obtain rfl : j = nl := by omega
              have hjl : ¬ ((j : Nat) : Int) < ((j : Nat) : Int) := by omega
              have k4 := HKP.out wr HBX.out
              rw [HPR.out] at k4
              go_wp2_with (go_at_call 21; (with_reducible refine k4.mono ?_); rintro e w10 ⟨v10, rfl, hr, hB⟩; (obtain ⟨a10, c10, rfl⟩ := hr.slice); (obtain ⟨g10, rfl, -, -, hc⟩ := hr.cell (by simp)); (have c0 := hc 0 (by simp)); (simp only [List.getElem_cons_zero] at c0); clear hc; (have HB10 := Lib.hid (bel_next HBX.out hB)); clear hr hB k4)
              go_ret
              exact ⟨rfl, bel_next HB4.out HB10.out⟩
        · have HPR := Lib.hid (show preferL P h 1 = [f] by rw [HPR0.out, if_neg hf0])
          have d5 : decide (f < 0) = false := decide_eq_false hf0
          have hq1 : (f == f) = true := by simp
          have hB9 := HB8.out
          clear hf0 HPR0 h0P hp0 h0 hnl0
          have kd9 := HKD.out w8 HB8.out
          have HC9 := HCX
          go_upto_region 25 with (go_at_call 19; (with_reducible refine kd9.mono ?_); rintro e w9 ⟨v9, rfl, hr, hB⟩; (have HR9 := Lib.hid hr); (have HBX := Lib.hid (bel_next HB8.out hB)); (have HCY := Lib.hid (HC9.out.later hB)); clear hr hB kd9)
          clear d5
          obtain ⟨a9, c9, rfl⟩ := HR9.out.slice
          rw [HNL.out]
          have HRR := Lib.hid (show IRow w9 _ (.slice a9 nl c9) N by have h := HR9.out; rw [HNL.out] at h; exact h)
          clear HR9
          go_loopg [19] nl (fun g ii wr => ∃ j : Nat, j + g = nl ∧ ii = .int .i64 (j : Int) ∧ wr = w9)
          case atStart => exact ⟨0, by omega, rfl, rfl⟩
          case round =>
            obtain ⟨j, hj, rfl, rfl⟩ := hrel
            cases gk with
            | succ g =>
              have hjl : (j : Int) < ((nl : Nat) : Int) := by omega
              have hjN : j < N.length := by rw [HNL.out]; omega
              obtain ⟨g9, rfl, -, -, hc⟩ := HRR.out.cell (by omega)
              have c1 := hc j hjN
              have hxn := HN3.out.2 N[j] (List.getElem_mem _)
              have h8 := HC8.out N[j] (List.getElem_mem _)
              obtain ⟨x, hx⟩ : ∃ x, N[j] = x := ⟨_, rfl⟩
              rw [hx] at c1 hxn h8
              obtain ⟨xn, rfl⟩ := Int.eq_ofNat_of_zero_le hxn.1
              have hx16 : xn < 16 := by omega
              have hx16' : (xn : Int) < 16 := by omega
              have y := (HCY.out.2 xn hx16).1
              rw [HCE.out, h8] at y
              have y' : wr.cell? ⟨b8, xn, none⟩ = some (.int .i64 8) := y
              clear hc hx hxn h8 y
              go_wp2
              go_roundg g
              case measure => omega
              case rel => exact ⟨j + 1, by omega, by go_num, rfl⟩
            | zero =>
              obtain rfl : j = nl := by omega
              have hjl : ¬ ((j : Nat) : Int) < ((j : Nat) : Int) := by omega
              have k4 := HKP.out wr HBX.out
              rw [HPR.out] at k4
              go_wp2_with (go_at_call 21; (with_reducible refine k4.mono ?_); rintro e w10 ⟨v10, rfl, hr, hB⟩; (obtain ⟨a10, c10, rfl⟩ := hr.slice); (obtain ⟨g10, rfl, -, -, hc⟩ := hr.cell (by simp)); (have c0 := hc 0 (by simp)); (simp only [List.getElem_cons_zero] at c0); clear hc; (have HB10 := Lib.hid (bel_next HBX.out hB)); clear hr hB k4)
              go_ret
              exact ⟨rfl, bel_next HB4.out HB10.out⟩
end Go.Proofs.Ytmmkbedheeeecaa.ringPoints

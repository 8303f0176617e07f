/- The contract of the document's Parse. -/
import Derived.Test.YtafgfpppemdedaaWideRefParseMath
import Derived.Test.YtafgfpppemdedaaWideRefText
import Derived.Test.YtafgfpppemdedaaWideRefOps
import Derived.Deep.CutRange
import Derived.BigRegion
namespace Go.Proofs.Ytafgfpppemdedaa
open Go.RowKit Go.Proofs.Ytafgfpppemdedaa.Wd

/-- What Parse leaves. -/
def Parsed (x y er : Int) (w : World) (e : Ending) (w' : World) : Prop := e = .returned (.tuple #[.agg #[.int .i64 (x), .int .u64 (y)], .int .i64 er]) ∧ Below w.heap.size w w'
/-- Sixteen digits that say V, the answer's own cells, and what lies below. -/
structure PR (w wr : World) (o b : Nat) (f : Nat → Int) (V : Nat) : Prop where
  arr : Arr wr b f
  dig : ∀ i, i < 16 → 0 ≤ f i ∧ f i ≤ 255
  val : tailv f 16 = (V : Int)
  out : WideAt wr o 0 0
  below : Below w.heap.size w wr
  ob : o < b
  room : w.heap.size ≤ o
/-- What the putting right of the digits d has done: the last k of them. -/
structure CR (w wr : World) (o b : Nat) (d : Nat → Int) (k : Nat) (c : Int) (g : Nat → Int) : Prop where
  arr : Arr wr b g
  sum : tailv d k = tailv g k + c * 256 ^ k
  old : ∀ i, i < 16 - k → g i = d i
  new : ∀ i, 16 - k ≤ i → i < 16 → 0 ≤ g i ∧ g i ≤ 255
  c0 : 0 ≤ c
  c1 : c ≤ 10
  out : WideAt wr o 0 0
  below : Below w.heap.size w wr
  ob : o < b
  room : w.heap.size ≤ o
theorem CR.next {w wr : World} {o b k : Nat} {d g : Nat → Int} {c : Int} (R : CR w wr o b d k c g) (hk : k < 16) (hd : 0 ≤ d (15 - k) ∧ d (15 - k) ≤ 2559) :
    CR w (wr.setCell ⟨b, 15 - k, none⟩ (.int .i64 ((d (15 - k) + c) % 256))) o b d (k + 1) ((d (15 - k) + c) / 256) (updI g (15 - k) ((d (15 - k) + c) % 256)) := by
  have h0 := R.c0
  have h1 := R.c1
  have hob := R.ob
  have hroom := R.room
  refine ⟨R.arr.stored (15 - k) (by omega) _, carry_step hk R.sum _ _ rfl rfl _ (by unfold updI; rw [if_pos rfl]) (fun i hi => by unfold updI; rw [if_neg hi]), fun i hi => ?_, fun i h2 h3 => ?_, by omega, by omega, R.out.other _ _ (by show o ≠ b; omega), R.below.setCell (by show w.heap.size ≤ b; omega) _, R.ob, R.room⟩
  · unfold updI; rw [if_neg (by omega)]; exact R.old i (by omega)
  · unfold updI
    split
    · omega
    · exact R.new i (by omega) h3

/-- A text that goes on behind its first look: it has a first letter, which is no 0 but in "0" itself. -/
def Goes (s : ByteArray) : Prop := 0 < (body s).size ∧ ((body s).data.toList.head? = some 48 → negB s = false ∧ (body s).size = 1)
theorem goes_num {s : ByteArray} (h : Goes s) : numB s.data.toList = (body s).data.toList.all isDig := by
  obtain ⟨h0, h1⟩ := h
  rw [numB_cons s h0]
  have hh : (body s).data.toList.head? = some (body s)[0] := by
    rw [List.head?_eq_getElem?, List.getElem?_eq_getElem (by rw [← size_list]; exact h0)]; rfl
  by_cases hz : (body s)[0] = 48
  · rw [if_pos hz]
    obtain ⟨h2, h3⟩ := h1 (by rw [hh, hz])
    have hb : body s = s := by unfold body; rw [h2]; rfl
    have hh2 : (body s).data.toList.head? = some 48 := by rw [hh, hz]
    rw [hb] at hh2 h3
    have hl : s.data.toList = [48] := by
      have hl1 : s.data.toList.length = 1 := by rw [← size_list]; exact h3
      match hm : s.data.toList, hl1 with
      | [c], _ =>
        rw [hm] at hh2
        simp at hh2
        rw [hh2]
    rw [hb, hl]; decide
  · rw [if_neg hz]

theorem WideAt.stored {w : World} {b : Nat} {h l : Int} (k : WideAt w b h l) (h2 l2 : Int) : WideAt ((w.setCell ⟨b, 0, none⟩ (.int .i64 h2)).setCell ⟨b, 1, none⟩ (.int .u64 l2)) b h2 l2 := by
  obtain ⟨k0, k1, k2, k3⟩ := k
  exact ⟨by simp [go_sem, k0], by simp [go_sem, k1], by simp [go_sem, k2], by simp [go_sem, k3]⟩
theorem tail_pos {w w1 w2 w3 : World} {o : Obj} (h1 : Below w.heap.size w w1) (h2 : Below w1.heap.size w1 w2) (h3 : Below (w2.alloc o).heap.size (w2.alloc o) w3) : Below w.heap.size w w3 := by
  have g1 := h1.size
  have g2 := h2.size
  exact ((h1.trans (h2.mono g1)).alloc (by omega) o).trans (h3.mono (by simp; omega))
theorem tail_neg {w w1 w2 w3 w4 : World} {o : Obj} {u v : Value} (h1 : Below w.heap.size w w1) (h2 : Below w1.heap.size w1 w2) (h3 : Below (w2.alloc o).heap.size (w2.alloc o) w3)
    (h4 : Below ((w3.setCell ⟨w2.heap.size, 0, none⟩ u).setCell ⟨w2.heap.size, 1, none⟩ v).heap.size ((w3.setCell ⟨w2.heap.size, 0, none⟩ u).setCell ⟨w2.heap.size, 1, none⟩ v) w4) : Below w.heap.size w w4 := by
  have g1 := h1.size
  have g2 := h2.size
  have g3 := (tail_pos h1 h2 h3).size
  exact (((tail_pos h1 h2 h3).setCell (by show w.heap.size ≤ w2.heap.size; omega) _).setCell (by show w.heap.size ≤ w2.heap.size; omega) _).trans (h4.mono (by simp; omega))
theorem goes_not {s : ByteArray} (h : ¬ Goes s) : numB s.data.toList = false := by
  by_cases h0 : (body s).size = 0
  · exact numB_nil s h0
  · have hp : 0 < (body s).size := by omega
    rw [numB_cons s hp]
    have hh : (body s).data.toList.head? = some (body s)[0] := by
      rw [List.head?_eq_getElem?, List.getElem?_eq_getElem (by rw [← size_list]; exact hp)]; rfl
    by_cases hz : (body s)[0] = 48
    · rw [if_pos hz]
      apply decide_eq_false
      intro hl
      apply h
      refine ⟨hp, fun _ => ?_⟩
      have hn : negB s = false := by unfold negB; rw [hl]; decide
      have hb : body s = s := by unfold body; rw [hn]; rfl
      exact ⟨hn, by rw [hb, size_list, hl]; rfl⟩
    · exfalso
      apply h
      refine ⟨hp, fun e => ?_⟩
      rw [hh] at e
      exact absurd (Option.some.inj e) hz
theorem byte0_45 (s : ByteArray) (h : 0 < s.size) : (((s[0]).toNat : Int) == 45) = negB s := by
  rw [byte_45]
  unfold negB
  rw [Bool.eq_iff_iff]
  have : s.data.toList.head? = some s[0] := by
    rw [List.head?_eq_getElem?, List.getElem?_eq_getElem (by rw [← size_list]; exact h)]; rfl
  rw [this]; simp
theorem empty_of {s : ByteArray} (h : s.size = 0) : s = ⟨#[]⟩ := ByteArray.ext (Array.eq_empty_of_size_eq_zero h)
theorem isEmpty_of {s : ByteArray} (h : 0 < s.size) : s.toList.isEmpty = false := by
  rw [ByteArray.toList_eq]
  cases e : s.data.toList with
  | nil => rw [size_list, e] at h; simp at h
  | cons c r => rfl

set_option maxHeartbeats 4000000 in
theorem refParse_bad (s : ByteArray) (w : World) (hs : s.size ≤ 1000) (h : ¬ Goes s) : Calls Try.prog 24 #[.string s] w (Parsed 0 0 10 w) := by
  by_cases h0 : s.size = 0
  · obtain rfl := empty_of h0
    clear h0 h
    go_enter Try.func24, Try.ntmps24
    go_wp2
    exact bodyPost_ret (v := .tuple #[.agg #[.int .i64 (0), .int .u64 (0)], .int .i64 10]) (by simp [results, Try.results24, go_sem]) rfl ⟨rfl, by (repeat (first | exact Below.refl _ _ | refine Below.drew ?_ | refine below_drewN ?_ _ | (refine Below.setCell ?_ (by simp; try omega) _) | (refine below_new ?_ _ (by simp; try omega)) | (refine below_on ?_ (by assumption)) | (refine below_next ?_ (by assumption) (by simp; try omega)) | assumption))⟩
  · have hp : 0 < s.size := by omega
    have h45 := byte0_45 s hp
    obtain ⟨t, ht⟩ : ∃ t, body s = t := ⟨_, rfl⟩
    have hp2 : (0 : Int) < (s.size : Int) := by omega
    unfold Goes at h
    rw [ht] at h
    by_cases hn : negB s = true
    · have hx : s.extract 1 s.size = t := by rw [← ht]; unfold body; rw [if_pos hn]
      rw [hn] at h45 h
      by_cases ht0 : t.size = 0
      · obtain rfl := empty_of ht0
        clear h ht hn ht0
        go_enter Try.func24, Try.ntmps24
        go_wp2
        exact bodyPost_ret (v := .tuple #[.agg #[.int .i64 (0), .int .u64 (0)], .int .i64 10]) (by simp [results, Try.results24, go_sem]) rfl ⟨rfl, by (repeat (first | exact Below.refl _ _ | refine Below.drew ?_ | refine below_drewN ?_ _ | (refine Below.setCell ?_ (by simp; try omega) _) | (refine below_new ?_ _ (by simp; try omega)) | (refine below_on ?_ (by assumption)) | (refine below_next ?_ (by assumption) (by simp; try omega)) | assumption))⟩
      · have hp3 : 0 < t.size := by omega
        have he := isEmpty_of hp3
        have hp4 : (0 : Int) < (t.size : Int) := by omega
        have hc : t[0] = 48 := by
          refine Decidable.byContradiction fun e => h ⟨hp3, fun e2 => ?_⟩
          rw [List.head?_eq_getElem?, List.getElem?_eq_getElem (by rw [← size_list]; exact hp3)] at e2
          exact absurd (Option.some.inj e2) e
        have h48 : ((t[0].toNat : Int) == 48) = true := by rw [byte_48]; simpa using hc
        clear h ht hn ht0 hc
        go_enter Try.func24, Try.ntmps24
        go_wp2
        exact bodyPost_ret (v := .tuple #[.agg #[.int .i64 (0), .int .u64 (0)], .int .i64 10]) (by simp [results, Try.results24, go_sem]) rfl ⟨rfl, by (repeat (first | exact Below.refl _ _ | refine Below.drew ?_ | refine below_drewN ?_ _ | (refine Below.setCell ?_ (by simp; try omega) _) | (refine below_new ?_ _ (by simp; try omega)) | (refine below_on ?_ (by assumption)) | (refine below_next ?_ (by assumption) (by simp; try omega)) | assumption))⟩
    · have hn : negB s = false := by simpa using hn
      have hst : s = t := by rw [← ht]; unfold body; rw [hn]; rfl
      subst hst
      rw [hn] at h45 h
      have he := isEmpty_of hp
      have hc : s[0] = 48 := by
        refine Decidable.byContradiction fun e => h ⟨hp, fun e2 => ?_⟩
        rw [List.head?_eq_getElem?, List.getElem?_eq_getElem (by rw [← size_list]; exact hp)] at e2
        exact absurd (Option.some.inj e2) e
      have h48 : ((s[0].toNat : Int) == 48) = true := by rw [byte_48]; simpa using hc
      have hlen : (1 : Int) < (s.size : Int) := by
        have : ¬ s.size = 1 := fun e => h ⟨hp, fun _ => ⟨rfl, e⟩⟩
        omega
      clear h ht hn hc
      go_enter Try.func24, Try.ntmps24
      go_wp2
      exact bodyPost_ret (v := .tuple #[.agg #[.int .i64 (0), .int .u64 (0)], .int .i64 10]) (by simp [results, Try.results24, go_sem]) rfl ⟨rfl, by (repeat (first | exact Below.refl _ _ | refine Below.drew ?_ | refine below_drewN ?_ _ | (refine Below.setCell ?_ (by simp; try omega) _) | (refine below_new ?_ _ (by simp; try omega)) | (refine below_on ?_ (by assumption)) | (refine below_next ?_ (by assumption) (by simp; try omega)) | assumption))⟩

set_option maxRecDepth 100000 in
set_option maxHeartbeats 32000000 in
theorem refParse_good (s : ByteArray) (x y er : Int) (w : World) (hs : s.size ≤ 1000) (hG : Goes s) (H : Hid (ParseIs s x y er)) : Calls Try.prog 24 #[.string s] w (Parsed x y er w) := by
  have hnum := Lib.hid (goes_num hG)
  obtain ⟨t, ht⟩ : ∃ t, body s = t := ⟨_, rfl⟩
  obtain ⟨neg, hneg⟩ : ∃ neg, negB s = neg := ⟨_, rfl⟩
  have hp : 0 < s.size := by
    have h1 := hG.1
    unfold body at h1
    split at h1
    · simp at h1; omega
    · exact h1
  have h45 := byte0_45 s hp
  rw [hneg] at h45
  have hp2 : (0 : Int) < (s.size : Int) := by omega
  have hp3 : 0 < t.size := by rw [← ht]; exact hG.1
  have hts : t.size ≤ 1000 := by
    rw [← ht]; unfold body
    split
    · simp; omega
    · exact hs
  have he := isEmpty_of hp3
  have h48 : ((t[0].toNat : Int) == 48) = true → neg = false ∧ t.size = 1 := by
    intro h
    rw [byte_48] at h
    have h := of_decide_eq_true h
    have := hG.2 (by
      rw [List.head?_eq_getElem?, List.getElem?_eq_getElem (by rw [← size_list]; exact hG.1)]
      subst ht
      exact congrArg some h)
    rw [hneg, ht] at this
    exact this
  have hbody : s.extract 1 s.size = t ∨ neg = false := by
    cases neg with
    | true => left; rw [← ht]; unfold body; rw [hneg]; rfl
    | false => exact Or.inr rfl
  have hsame : neg = false → s = t := by
    intro h; rw [← ht]; unfold body; rw [hneg, h]; rfl
  have HT := Lib.hid ht
  have HNEG := Lib.hid hneg
  have H48 := Lib.hid h48
  have HBODY := Lib.hid hbody
  have HSAME := Lib.hid hsame
  clear ht hneg h48 hbody hsame hG
  go_enter Try.func24, Try.ntmps24
  go_upto_if 23 with fail
  go_cut [4] from 14 (fun v wx => v = .string t ∧ wx = w.alloc (.cells #[.int .i64 0, .int .u64 0] 24))
  case first =>
    cases neg with
    | true =>
      have hx : s.extract 1 s.size = t := HBODY.out.resolve_right (by simp)
      (go_wp2_with fail; go_meet; exact ⟨rfl, rfl⟩)
    | false =>
      obtain rfl := HSAME.out rfl
      (go_wp2_with fail; go_meet; exact ⟨rfl, rfl⟩)
  case rest =>
  obtain ⟨rfl, rfl⟩ := hcut
  go_upto_region 5 with fail
  go_cut [40] from 24 (fun v wx => v = .bool false ∧ wx = w.alloc (.cells #[.int .i64 0, .int .u64 0] 24))
  case first =>
    by_cases h48 : ((t[0].toNat : Int) == 48) = true
    · obtain ⟨rfl, h1⟩ := H48.out h48
      have hlen : ¬ (1 : Int) < (t.size : Int) := by omega
      (go_wp2_with fail; go_meet; exact ⟨rfl, rfl⟩)
    · have h48 : ((t[0].toNat : Int) == 48) = false := by simpa using h48
      (go_wp2_with fail; go_meet; exact ⟨rfl, rfl⟩)
  case rest =>
  obtain ⟨rfl, rfl⟩ := hcut
  clear h45 hp2 he hp3 hp HBODY HSAME H48
  go_wp2_with fail
  go_loop [6] (fun i => ∃ k : Nat, k ≤ t.size ∧ i = .int .i64 (k : Int) ∧ Hid ((t.data.toList.take k).all isDig = true)) (fun i => t.size - (intOf i).toNat)
  case atStart => exact ⟨0, Nat.zero_le _, rfl, Lib.hid rfl⟩
  case round =>
    obtain ⟨k, hk, rfl, HA⟩ := hrel
    by_cases hlt : k < t.size
    · have HS := Lib.hid (all_snoc t k hlt)
      by_cases hd : 48 ≤ t[k].toNat ∧ t[k].toNat ≤ 57
      · obtain ⟨d1, d2⟩ := hd
        have HD : Hid (isDig t[k] = true) := by show _ = _; unfold isDig; simp; omega
        have d1' : ¬ ((t[k].toNat : Int) < 48) := by omega
        have d2' : ¬ (57 < (t[k].toNat : Int)) := by omega
        go_wp2
        go_round
        case rel => exact ⟨k + 1, by omega, by go_num, Lib.hid (by rw [HS.out, HA.out, HD.out]; rfl)⟩
        case measure => simp [intOf]; omega
      · have HD : Hid (isDig t[k] = false) := by show _ = _; unfold isDig; simp; omega
        have HF : t.data.toList.all isDig = false := by
          have := HS.out
          rw [HD.out, Bool.and_false] at this
          have e : t.data.toList = t.data.toList.take (k + 1) ++ t.data.toList.drop (k + 1) := (List.take_append_drop _ _).symm
          rw [e, List.all_append, this]; rfl
        have H2 := H.out
        unfold ParseIs at H2
        rw [if_pos (by rw [hnum.out, HT.out, HF])] at H2
        obtain ⟨rfl, rfl, rfl⟩ := H2
        clear H HF HD HS HA
        by_cases hd1 : t[k].toNat < 48
        · have d1' : ((t[k].toNat : Int) < 48) := by omega
          clear hd
          go_wp2
          exact bodyPost_ret (v := .tuple #[.agg #[.int .i64 (0), .int .u64 (0)], .int .i64 10]) (by simp [results, Try.results24, go_sem]) rfl ⟨rfl, by (repeat (first | exact Below.refl _ _ | refine Below.drew ?_ | refine below_drewN ?_ _ | (refine Below.setCell ?_ (by simp; try omega) _) | (refine below_new ?_ _ (by simp; try omega)) | (refine below_on ?_ (by assumption)) | (refine below_next ?_ (by assumption) (by simp; try omega)) | assumption))⟩
        · have d1' : ¬ ((t[k].toNat : Int) < 48) := by omega
          have d2' : (57 < (t[k].toNat : Int)) := by omega
          clear hd
          go_wp2
          exact bodyPost_ret (v := .tuple #[.agg #[.int .i64 (0), .int .u64 (0)], .int .i64 10]) (by simp [results, Try.results24, go_sem]) rfl ⟨rfl, by (repeat (first | exact Below.refl _ _ | refine Below.drew ?_ | refine below_drewN ?_ _ | (refine Below.setCell ?_ (by simp; try omega) _) | (refine below_new ?_ _ (by simp; try omega)) | (refine below_on ?_ (by assumption)) | (refine below_next ?_ (by assumption) (by simp; try omega)) | assumption))⟩
    · obtain rfl : k = t.size := by omega
      have hall : t.data.toList.all isDig = true := by
        have := HA.out
        rw [List.take_of_length_le (by simp)] at this
        exact this
      have hn : numB s.data.toList = true := by rw [hnum.out, HT.out, hall]
      have HN := Lib.hid hn
      have HALL := Lib.hid hall
      clear hn hall HA hnum
      as_aux_lemma =>
      have hO := WideAt.new w 0 0 24
      by_cases h39 : 39 < t.size
      · obtain ⟨rfl, rfl, rfl⟩ := parse_no H.out HN.out (long_no (by rw [HT.out]; exact h39))
        have h39' : (39 : Int) < (t.size : Int) := by omega
        clear H HN HALL hO
        go_wp2
        exact bodyPost_ret (v := .tuple #[.agg #[.int .i64 (0), .int .u64 (0)], .int .i64 11]) (by simp [results, Try.results24, go_sem]) rfl ⟨rfl, by (repeat (first | exact Below.refl _ _ | refine Below.drew ?_ | refine below_drewN ?_ _ | (refine Below.setCell ?_ (by simp; try omega) _) | (refine below_new ?_ _ (by simp; try omega)) | (refine below_on ?_ (by assumption)) | (refine below_next ?_ (by assumption) (by simp; try omega)) | assumption))⟩
      · have h39' : ¬ (39 : Int) < (t.size : Int) := by omega
        have hA0 := Arr.new (w.alloc (.cells #[.int .i64 0, .int .u64 0] 24)) (fun _ => 0) 44
        simp only [World.size_alloc] at hA0
        have hO0 := hO.below ((Below.refl _ (w.alloc (.cells #[.int .i64 0, .int .u64 0] 24))).alloc (Nat.le_refl _) (.cells (arrOf fun _ => 0) 44))
        have HP0 : Hid (PR w ((w.alloc (.cells #[.int .i64 0, .int .u64 0] 24)).alloc (.cells (arrOf fun _ => 0) 44)) w.heap.size (w.heap.size + 1) (fun _ => 0) 0) :=
          ⟨hA0, fun i _ => by omega, tailv_zero, hO0, ((Below.refl _ _).alloc (Nat.le_refl _) _).alloc (by simp) _, by omega, Nat.le_refl _⟩
        clear hO hA0 hO0
        go_wp2_with fail
        go_loopw [8] (fun i wr => ∃ (k : Nat) (f : Nat → Int), k ≤ t.size ∧ i = .int .i64 (k : Int) ∧ PR w wr w.heap.size (w.heap.size + 1) f (valD (t.data.toList.take k))) (fun i _ => t.size - (intOf i).toNat)
        case atStart => exact ⟨0, _, Nat.zero_le _, rfl, HP0.out⟩
        case round =>
          obtain ⟨k, f, hk, rfl, P⟩ := hrel
          clear HP0
          by_cases hlt : k < t.size
          · have HP := Lib.hid P
            have hlt2 : (k : Int) < (t.size : Int) := by omega
            have hO0 : Hid (OpRel w wr (w.heap.size + 1) w.heap.size f f (fun i => f i * 10) 0) := ⟨P.arr, fun i hi => absurd hi (by omega), fun _ _ => rfl, P.out, P.below, by omega, by omega⟩
            clear P
            as_aux_lemma =>
            go_wp2_with fail
            go_loopw [9] (fun i wr => ∃ (m : Nat) (g : Nat → Int), m ≤ 16 ∧ i = .int .i64 (m : Int) ∧ OpRel w wr (w.heap.size + 1) w.heap.size g f (fun i => f i * 10) m) (fun i _ => 16 - (intOf i).toNat)
            case atStart => exact ⟨0, f, by decide, rfl, hO0.out⟩
            case round =>
              obtain ⟨m, g, hm, rfl, R⟩ := hrel
              clear hO0
              by_cases hml : m < 16
              · have c1 := (R.arr m hml).1
                have f1 := (R.arr m hml).2
                rw [R.rest m (Nat.le_refl _)] at c1
                have r1 := HP.out.dig m hml
                have N := Lib.hid (R.next hml)
                obtain ⟨u, hu⟩ : ∃ u, f m = u := ⟨_, rfl⟩
                rw [hu] at c1 r1 N
                obtain ⟨u0, u1⟩ := r1
                have hk1 : (m : Int) < 16 := by omega
                clear R hu
                as_aux_lemma =>
                go_wp2
                go_roundw
                case rel => exact ⟨m + 1, _, by omega, by go_num, N.out⟩
                case measure => simp [intOf]; omega
              · obtain rfl : m = 16 := by omega
                have hA := R.all
                have hOut := R.out
                have hBel := R.below
                have c15 : wr.cell? ⟨w.heap.size + 1, 15, none⟩ = some (.int .i64 (f 15 * 10)) := (hA 15 (by decide)).1
                have f15 := (hA 15 (by decide)).2
                have r15 := HP.out.dig 15 (by decide)
                obtain ⟨d1, d2⟩ := dig_at t k hlt HALL.out
                obtain ⟨b, hb⟩ : ∃ b, t[k] = b := ⟨_, rfl⟩
                rw [hb] at d1 d2
                have hst : valD (t.data.toList.take (k + 1)) = valD (t.data.toList.take k) * 10 + (b.toNat - 48) := by rw [take_snoc t k hlt, valD_snoc, hb]
                have HST := Lib.hid hst
                obtain ⟨u, hu⟩ : ∃ u, f 15 = u := ⟨_, rfl⟩
                rw [hu] at c15 r15
                obtain ⟨u0, u1⟩ := r15
                have hD : Hid (Arr (wr.setCell ⟨w.heap.size + 1, 15, none⟩ (.int .i64 (u * 10 + ((b.toNat : Int) - 48)))) (w.heap.size + 1) (updI (fun i => f i * 10) 15 (u * 10 + ((b.toNat : Int) - 48)))) := hA.stored 15 (by decide) _
                have hO2 : Hid (WideAt (wr.setCell ⟨w.heap.size + 1, 15, none⟩ (.int .i64 (u * 10 + ((b.toNat : Int) - 48)))) w.heap.size 0 0) := hOut.other _ _ (by show w.heap.size ≠ w.heap.size + 1; omega)
                have hB2 : Hid (Below w.heap.size w (wr.setCell ⟨w.heap.size + 1, 15, none⟩ (.int .i64 (u * 10 + ((b.toNat : Int) - 48))))) := hBel.setCell (by show w.heap.size ≤ w.heap.size + 1; omega) _
                have hsum : Hid (tailv (updI (fun i => f i * 10) 15 (u * 10 + ((b.toNat : Int) - 48))) 16 = ((valD (t.data.toList.take (k + 1)) : Nat) : Int)) := by
                  show _ = _
                  rw [tailv_last _ _ 15 (by decide), tailv_mul, HP.out.val, hst, hu]
                  omega
                have hdg : Hid (∀ i, i < 16 → 0 ≤ updI (fun i => f i * 10) 15 (u * 10 + ((b.toNat : Int) - 48)) i ∧ updI (fun i => f i * 10) 15 (u * 10 + ((b.toNat : Int) - 48)) i ≤ 2559) := fun i hi => by
                  have := HP.out.dig i hi
                  unfold updI
                  split
                  · omega
                  · show 0 ≤ f i * 10 ∧ f i * 10 ≤ 2559
                    omega
                have hw8 : IntKind.u8.wrap ((b.toNat : Int) - 48) = (b.toNat : Int) - 48 := by rw [IntKind.wrap_u8]; omega
                have hw9 : IntKind.i64.wrap (u * 10 + ((b.toNat : Int) - 48)) = u * 10 + ((b.toNat : Int) - 48) := IntWalk.i64_in _ (by omega)
                have hkn : ((k : Int)).toNat = k := by omega
                have hk0 : (0 : Int) ≤ (k : Int) := by omega
                clear R hA hOut hBel hst hu
                as_aux_lemma =>
                go_wp2_with fail
                go_region
                obtain ⟨z, hz⟩ : ∃ z, updI (fun i => f i * 10) 15 (u * 10 + ((b.toNat : Int) - 48)) = z := ⟨_, rfl⟩
                have hD1 := hD.out.drew
                have hO3 := hO2.out.drew
                have hB3 := hB2.out.drew
                have hsum1 := hsum.out
                have hdg1 := hdg.out
                rw [hz] at hD1 hsum1 hdg1
                have HSUM := Lib.hid hsum1
                have HDG := Lib.hid hdg1
                have hC0 : Hid (CR w (wr.setCell ⟨w.heap.size + 1, 15, none⟩ (.int .i64 (u * 10 + ((b.toNat : Int) - 48)))).drew w.heap.size (w.heap.size + 1) z 0 0 z) := ⟨hD1, by simp [tailv], fun _ _ => rfl, fun i h1 h2 => by omega, by decide, by decide, hO3, hB3, by omega, Nat.le_refl _⟩
                clear hD hO2 hB2 hD1 hO3 hB3 hsum hsum1 hdg hdg1 hz hw8 hw9 c15 f15
                as_aux_lemma =>
                go_wp2_with fail
                go_loopw [10, 11] (fun q i wr => ∃ (m : Nat) (c : Int) (g : Nat → Int), m ≤ 16 ∧ i = .int .i64 (15 - (m : Int)) ∧ q = .int .i64 c ∧ CR w wr w.heap.size (w.heap.size + 1) z m c g) (fun _ i _ => (intOf i + 1).toNat)
                case atStart => exact ⟨0, 0, z, by decide, rfl, rfl, hC0.out⟩
                case round =>
                  obtain ⟨m, c, g, hm, rfl, rfl, R⟩ := hrel
                  clear hC0
                  by_cases hml : m < 16
                  · have hold := R.old (15 - m) (by omega)
                    have hc1 := (R.arr (15 - m) (by omega)).1
                    have hc2 := (R.arr (15 - m) (by omega)).2
                    rw [hold] at hc1
                    have hdk := HDG.out (15 - m) (by omega)
                    have N := Lib.hid (R.next hml hdk)
                    have h0 := R.c0
                    have h1 := R.c1
                    obtain ⟨v, hv⟩ : ∃ v, z (15 - m) = v := ⟨_, rfl⟩
                    rw [hv] at hc1 hdk N
                    obtain ⟨v0, v1⟩ := hdk
                    clear R hold hv
                    have hi1 : (15 - (m : Int)).toNat = 15 - m := by omega
                    have hi2 : (0 : Int) ≤ 15 - (m : Int) := by omega
                    have hi3 : (15 : Int) - (m : Int) < 16 := by omega
                    as_aux_lemma =>
                    go_wp2
                    go_roundw
                    case rel => exact ⟨m + 1, _, _, by omega, by go_num, rfl, N.out⟩
                    case measure => simp [intOf]; omega
                  · obtain rfl : m = 16 := by omega
                    have hsum := R.sum
                    have e16 : (256 : Int) ^ 16 = 340282366920938463463374607431768211456 := by decide
                    rw [e16, HSUM.out] at hsum
                    have hnew : ∀ i, i < 16 → 0 ≤ g i ∧ g i ≤ 255 := fun i hi => R.new i (by omega) hi
                    have hrg := tailv_range g hnew
                    have hc0 := R.c0
                    by_cases hcz : c = 0
                    · subst hcz
                      have HN1 : Hid (PR w wr w.heap.size (w.heap.size + 1) g (valD (t.data.toList.take (k + 1)))) := ⟨R.arr, hnew, by omega, R.out, R.below, by omega, Nat.le_refl _⟩
                      clear R hsum e16 hnew hrg HSUM HDG HST
                      as_aux_lemma =>
                      go_wp2
                      go_roundw
                      case rel => exact ⟨k + 1, g, by omega, by go_num, HN1.out⟩
                      case measure => simp [intOf]; omega
                    · have hcp : 0 < c := by omega
                      have hO5 := R.out
                      have hB5 := R.below
                      obtain ⟨rfl, rfl, rfl⟩ := parse_no H.out HN.out (great_no (j := k + 1) (by rw [HT.out]; omega))
                      have o0 := hO5.c0
                      have o1 := hO5.c1
                      have o2 := hO5.f0
                      have o3 := hO5.f1
                      clear R hsum e16 hnew hrg HSUM HDG HST H HN HALL HP hcz hc0
                      as_aux_lemma =>
                      go_wp2
                      exact bodyPost_ret (v := .tuple #[.agg #[.int .i64 (0), .int .u64 (0)], .int .i64 11]) (by simp [results, Try.results24, go_sem, o0, o1]) rfl ⟨rfl, (hB5.setCell (Nat.le_refl _) _).setCell (Nat.le_refl _) _⟩
          · obtain rfl : k = t.size := by omega
            have hA := P.arr
            have hO := P.out
            have hBel := P.below
            have hval := P.val
            have hdig := P.dig
            rw [List.take_of_length_le (by simp)] at hval
            have hroom : w.heap.size ≤ w.heap.size := Nat.le_refl _
            obtain ⟨h2, l2, A2⟩ := rep_sm ((valD t.data.toList : Nat) : Int)
            have kn := fun w => number_any f h2 l2 _ w hdig A2 (by rw [hval]; exact sm_cong _)
            have hd0 : digitsOf s = sm ((valD t.data.toList : Nat) : Int) := by unfold digitsOf; rw [HT.out]
            clear P hval hdig HALL
            as_aux_lemma =>
            cases neg with
            | true =>
              have hp0 : parsed s = sm (-(digitsOf s)) := by unfold parsed; rw [HNEG.out, if_pos rfl]
              obtain ⟨h3, l3, A3⟩ := rep_sm (-(digitsOf s))
              have kg := fun w => refNeg_any h2 l2 h3 l3 _ _ w A2 A3 (by rw [hd0]; exact sm_cong _)
              obtain ⟨T, hT⟩ : ∃ T : ByteArray, (⟨(textOf (sm (-(digitsOf s)))).toArray⟩ : ByteArray) = T := ⟨_, rfl⟩
              have kt := fun w => refText_any h3 l3 _ w A3
              rw [hT] at kt
              by_cases hTs : T = s
              · obtain ⟨rfl, rfl, rfl⟩ := parse_yes H.out HN.out (by rw [hp0]; exact text_of_bytes (hT.trans hTs)) (by rw [hp0]; exact A3)
                subst hTs
                clear hT H HN HT HNEG A2 A3 hp0 hd0
                as_aux_lemma =>
                go_wp2_with (first
                  | (refine wpList_load_arr hA rfl _ rfl rfl ?_)
                  | (go_at_call 35; (with_reducible refine (kn _).mono ?_); rintro e wn ⟨rfl, hbn⟩; have hOn := hO.below hbn; have hrn := hbn.size; have hro := hOn.room; have n0 := hOn.c0; have n1 := hOn.c1; have n2 := hOn.f0; have n3 := hOn.f1)
                  | (go_at_call 17; (with_reducible refine (kg _).mono ?_); rintro e w4 ⟨rfl, hb4⟩; have hX4 := (WideAt.new wn h2 l2 24).below hb4; have hO4 := (hOn.below ((Below.refl _ _).alloc (Nat.le_refl _) (.cells #[.int .i64 h2, .int .u64 l2] 24))).below hb4; have x0 := hX4.c0; have x1 := hX4.c1; have x2 := hX4.f0; have x3 := hX4.f1; have hr4 := hb4.size)
                  | (go_at_call 26; (with_reducible refine (kt _).mono ?_); rintro e w3 ⟨rfl, hb3⟩; have hX3 := (hX4.stored h3 l3).below hb3; have hO3 := ((hO4.other ⟨wn.heap.size, 0, none⟩ (.int .i64 h3) (by show _ ≠ wn.heap.size; omega)).other ⟨wn.heap.size, 1, none⟩ (.int .u64 l3) (by show _ ≠ wn.heap.size; omega)).below hb3; have y0 := hX3.c0; have y1 := hX3.c1; have o0 := hO3.c0; have o1 := hO3.c1; have o2 := hO3.f0; have o3 := hO3.f1))
                have hbel3 := Lib.hid (tail_neg hBel hbn hb4 hb3)
                exact bodyPost_ret (v := .tuple #[.agg #[.int .i64 (h3), .int .u64 (l3)], .int .i64 0]) (by simp [results, Try.results24, go_sem, o0, o1]) rfl ⟨rfl, (hbel3.out.setCell (Nat.le_refl _) _).setCell (Nat.le_refl _) _⟩
              · have hne := text_ne hTs
                obtain ⟨rfl, rfl, rfl⟩ := parse_no H.out HN.out (by rw [hp0]; intro e; exact hTs (by rw [← hT, e]))
                clear hT H HN HT HNEG A2 A3 hp0 hd0 hTs
                as_aux_lemma =>
                go_wp2_with (first
                  | (refine wpList_load_arr hA rfl _ rfl rfl ?_)
                  | (go_at_call 35; (with_reducible refine (kn _).mono ?_); rintro e wn ⟨rfl, hbn⟩; have hOn := hO.below hbn; have hrn := hbn.size; have hro := hOn.room; have n0 := hOn.c0; have n1 := hOn.c1; have n2 := hOn.f0; have n3 := hOn.f1)
                  | (go_at_call 17; (with_reducible refine (kg _).mono ?_); rintro e w4 ⟨rfl, hb4⟩; have hX4 := (WideAt.new wn h2 l2 24).below hb4; have hO4 := (hOn.below ((Below.refl _ _).alloc (Nat.le_refl _) (.cells #[.int .i64 h2, .int .u64 l2] 24))).below hb4; have x0 := hX4.c0; have x1 := hX4.c1; have x2 := hX4.f0; have x3 := hX4.f1; have hr4 := hb4.size)
                  | (go_at_call 26; (with_reducible refine (kt _).mono ?_); rintro e w3 ⟨rfl, hb3⟩; have hX3 := (hX4.stored h3 l3).below hb3; have hO3 := ((hO4.other ⟨wn.heap.size, 0, none⟩ (.int .i64 h3) (by show _ ≠ wn.heap.size; omega)).other ⟨wn.heap.size, 1, none⟩ (.int .u64 l3) (by show _ ≠ wn.heap.size; omega)).below hb3; have y0 := hX3.c0; have y1 := hX3.c1; have o0 := hO3.c0; have o1 := hO3.c1; have o2 := hO3.f0; have o3 := hO3.f1))
                have hbel3 := Lib.hid (tail_neg hBel hbn hb4 hb3)
                exact bodyPost_ret (v := .tuple #[.agg #[.int .i64 (0), .int .u64 (0)], .int .i64 11]) (by simp [results, Try.results24, go_sem, o0, o1]) rfl ⟨rfl, (hbel3.out.setCell (Nat.le_refl _) _).setCell (Nat.le_refl _) _⟩
            | false =>
              have hp0 : parsed s = digitsOf s := by unfold parsed; rw [HNEG.out, if_neg (by simp)]
              rw [← hd0] at A2
              obtain ⟨T, hT⟩ : ∃ T : ByteArray, (⟨(textOf (digitsOf s)).toArray⟩ : ByteArray) = T := ⟨_, rfl⟩
              have kt := fun w => refText_any h2 l2 _ w A2
              rw [hT] at kt
              by_cases hTs : T = s
              · obtain ⟨rfl, rfl, rfl⟩ := parse_yes H.out HN.out (by rw [hp0]; exact text_of_bytes (hT.trans hTs)) (by rw [hp0]; exact A2)
                subst hTs
                clear hT H HN HT HNEG A2 hp0 hd0
                as_aux_lemma =>
                go_wp2_with (first
                  | (refine wpList_load_arr hA rfl _ rfl rfl ?_)
                  | (go_at_call 35; (with_reducible refine (kn _).mono ?_); rintro e wn ⟨rfl, hbn⟩; have hOn := hO.below hbn; have hrn := hbn.size; have hro := hOn.room; have n0 := hOn.c0; have n1 := hOn.c1; have n2 := hOn.f0; have n3 := hOn.f1)
                  | (go_at_call 26; (with_reducible refine (kt _).mono ?_); rintro e w3 ⟨rfl, hb3⟩; have hX3 := (WideAt.new wn h2 l2 24).below hb3; have hO3 := (hOn.below ((Below.refl _ _).alloc (Nat.le_refl _) (.cells #[.int .i64 h2, .int .u64 l2] 24))).below hb3; have y0 := hX3.c0; have y1 := hX3.c1; have o0 := hO3.c0; have o1 := hO3.c1; have o2 := hO3.f0; have o3 := hO3.f1))
                have hbel3 := Lib.hid (tail_pos hBel hbn hb3)
                exact bodyPost_ret (v := .tuple #[.agg #[.int .i64 (h2), .int .u64 (l2)], .int .i64 0]) (by simp [results, Try.results24, go_sem, o0, o1]) rfl ⟨rfl, (hbel3.out.setCell (Nat.le_refl _) _).setCell (Nat.le_refl _) _⟩
              · have hne := text_ne hTs
                obtain ⟨rfl, rfl, rfl⟩ := parse_no H.out HN.out (by rw [hp0]; intro e; exact hTs (by rw [← hT, e]))
                clear hT H HN HT HNEG A2 hp0 hd0 hTs
                as_aux_lemma =>
                go_wp2_with (first
                  | (refine wpList_load_arr hA rfl _ rfl rfl ?_)
                  | (go_at_call 35; (with_reducible refine (kn _).mono ?_); rintro e wn ⟨rfl, hbn⟩; have hOn := hO.below hbn; have hrn := hbn.size; have hro := hOn.room; have n0 := hOn.c0; have n1 := hOn.c1; have n2 := hOn.f0; have n3 := hOn.f1)
                  | (go_at_call 26; (with_reducible refine (kt _).mono ?_); rintro e w3 ⟨rfl, hb3⟩; have hX3 := (WideAt.new wn h2 l2 24).below hb3; have hO3 := (hOn.below ((Below.refl _ _).alloc (Nat.le_refl _) (.cells #[.int .i64 h2, .int .u64 l2] 24))).below hb3; have y0 := hX3.c0; have y1 := hX3.c1; have o0 := hO3.c0; have o1 := hO3.c1; have o2 := hO3.f0; have o3 := hO3.f1))
                have hbel3 := Lib.hid (tail_pos hBel hbn hb3)
                exact bodyPost_ret (v := .tuple #[.agg #[.int .i64 (0), .int .u64 (0)], .int .i64 11]) (by simp [results, Try.results24, go_sem, o0, o1]) rfl ⟨rfl, (hbel3.out.setCell (Nat.le_refl _) _).setCell (Nat.le_refl _) _⟩

theorem refParse_is (s : ByteArray) (x y er : Int) (w : World) (hs : s.size ≤ 1000) (H : Hid (ParseIs s x y er)) : Calls Try.prog 24 #[.string s] w (Parsed x y er w) := by
  by_cases hG : Goes s
  · exact refParse_good s x y er w hs hG H
  · have H2 := H.out
    unfold ParseIs at H2
    rw [if_pos (goes_not hG)] at H2
    obtain ⟨rfl, rfl, rfl⟩ := H2
    exact refParse_bad s w hs hG
end Go.Proofs.Ytafgfpppemdedaa

/- The contract of package wide's Parse. -/
import Derived.Test.YtafgfpppemdedaaWideNum
import Derived.Deep.RegionWith
namespace Go.Proofs.Ytafgfpppemdedaa
open Go.RowKit Go.Proofs.Ytafgfpppemdedaa.Wd

/-- The number in range that is, modulo 2^128, what the digits of s say, with its sign. -/
def digitsOf (s : ByteArray) : Int := sm (valD (body s).data.toList)
def parsed (s : ByteArray) : Int := if negB s then sm (-(digitsOf s)) else digitsOf s

/-- The cells of a number in block b. -/
structure WideAt (w : World) (b : Nat) (h l : Int) : Prop where
  c0 : w.cell? ⟨b, 0, none⟩ = some (.int .i64 h)
  c1 : w.cell? ⟨b, 1, none⟩ = some (.int .u64 l)
  f0 : w.frozen? ⟨b, 0, none⟩ = false
  f1 : w.frozen? ⟨b, 1, none⟩ = false
theorem WideAt.room {w : World} {b : Nat} {h l : Int} (k : WideAt w b h l) : b < w.heap.size := World.block_lt_of_cell? w _ k.c0
theorem WideAt.below {w w' : World} {b : Nat} {h l : Int} (k : WideAt w b h l) (hb : Below w.heap.size w w') : WideAt w' b h l :=
  ⟨(hb.cell (p := ⟨b, 0, none⟩) k.room).trans k.c0, (hb.cell (p := ⟨b, 1, none⟩) k.room).trans k.c1, (hb.frozen (p := ⟨b, 0, none⟩) k.room).trans k.f0, (hb.frozen (p := ⟨b, 1, none⟩) k.room).trans k.f1⟩

theorem take_snoc (s : ByteArray) (k : Nat) (h : k < s.size) : s.data.toList.take (k + 1) = s.data.toList.take k ++ [s[k]] := by
  rw [List.take_succ_eq_append_getElem (by simpa using h)]; rfl
theorem sm_step (v : Int) (n : Int) (d : Int) (m : Int) (h : m = sm (sm (v * 10) + d)) (hv : v = sm n) : m = sm (n * 10 + d) := by
  rw [h, hv]
  apply sm_eq
  exact (((sm_cong _).trans ((sm_cong n).mul 10)).add Cong.rfl)

theorem keep4 {b : Nat} {x y : Value} {w0 w1 w2 : World} (hb : Below w1.heap.size w1 w2) (h : w1.cell? ⟨b, 0, none⟩ = some x ∧ w1.cell? ⟨b, 1, none⟩ = some y ∧ w1.frozen? ⟨b, 0, none⟩ = false ∧ w1.frozen? ⟨b, 1, none⟩ = false ∧ Below w0.heap.size w0 w1) :
    w2.cell? ⟨b, 0, none⟩ = some x ∧ w2.cell? ⟨b, 1, none⟩ = some y ∧ w2.frozen? ⟨b, 0, none⟩ = false ∧ w2.frozen? ⟨b, 1, none⟩ = false ∧ Below w0.heap.size w0 w2 := by
  obtain ⟨h1, h2, h3, h4, h5⟩ := h
  have r1 := World.block_lt_of_cell? w1 _ h1
  exact ⟨(hb.cell (p := ⟨b, 0, none⟩) r1).trans h1, (hb.cell (p := ⟨b, 1, none⟩) r1).trans h2, (hb.frozen (p := ⟨b, 0, none⟩) r1).trans h3, (hb.frozen (p := ⟨b, 1, none⟩) r1).trans h4, h5.trans (hb.mono h5.size)⟩
theorem rep_start (l : List UInt8) : Rep 0 0 (sm (valD (l.take 0))) := by
  rw [List.take_zero, show ((valD [] : Nat) : Int) = 0 from rfl, show sm 0 = 0 from rfl]; exact rep_zero
theorem dig_at (t : ByteArray) (k : Nat) (h : k < t.size) (hd : t.data.toList.all isDig = true) : 48 ≤ t[k].toNat ∧ t[k].toNat ≤ 57 := by
  have := List.all_eq_true.1 hd t[k] (by
    show t.data[k] ∈ _
    simp)
  exact of_decide_eq_true this
theorem step_is (t : ByteArray) (k : Nat) (h : k < t.size) (hd : 48 ≤ t[k].toNat) : sm (sm (sm (valD (t.data.toList.take k)) * 10) + ((t[k].toNat : Int) - 48)) = sm (valD (t.data.toList.take (k + 1))) := by
  rw [take_snoc t k h, valD_snoc]
  rw [sm_step (sm (valD (t.data.toList.take k))) (valD (t.data.toList.take k)) _ _ rfl rfl]
  congr 1
  omega

/-- What Parse answers: the number's halves and the error. -/
def ParseIs (s : ByteArray) (x y er : Int) : Prop :=
  if numB s.data.toList = false then x = 0 ∧ y = 0 ∧ er = 10
  else if textOf (parsed s) = s.data.toList then Rep x y (parsed s) ∧ er = 0
  else x = 0 ∧ y = 0 ∧ er = 11

theorem WideAt.other {w : World} {b : Nat} {h l : Int} (k : WideAt w b h l) (a : Addr) (v : Value) (hne : b ≠ a.block) : WideAt (w.setCell a v) b h l := by
  obtain ⟨h1, h2, h3, h4⟩ := k
  have e : ∀ o, (⟨b, o, none⟩ : Addr) ≠ a := fun o e => hne (by rw [← e])
  exact ⟨by rw [World.cell?_setCell_other _ _ _ _ (fun e2 => e 0 e2.symm)]; exact h1, by rw [World.cell?_setCell_other _ _ _ _ (fun e2 => e 1 e2.symm)]; exact h2, by simp [go_sem, h3], by simp [go_sem, h4]⟩
theorem WideAt.drew {w : World} {b : Nat} {h l : Int} (k : WideAt w b h l) : WideAt w.drew b h l := ⟨k.c0, k.c1, k.f0, k.f1⟩
theorem text_ne {s t : ByteArray} (h : ¬ s = t) : (s.toList == t.toList) = false := by
  rw [ByteArray.toList_eq, ByteArray.toList_eq]
  apply Bool.eq_false_iff.2
  intro e
  exact h (ByteArray.ext (Array.toList_inj.1 (eq_of_beq e)))

theorem parse_yes {s : ByteArray} {x y er h l : Int} (H : ParseIs s x y er) (hn : numB s.data.toList = true) (ht : textOf (parsed s) = s.data.toList) (A : Rep h l (parsed s)) : h = x ∧ l = y ∧ er = 0 := by
  unfold ParseIs at H
  rw [if_neg (by rw [hn]; simp), if_pos ht] at H
  obtain ⟨H1, H2⟩ := H
  exact ⟨(A.inj H1).1, (A.inj H1).2, H2⟩
theorem parse_no {s : ByteArray} {x y er : Int} (H : ParseIs s x y er) (hn : numB s.data.toList = true) (ht : ¬ textOf (parsed s) = s.data.toList) : x = 0 ∧ y = 0 ∧ er = 11 := by
  unfold ParseIs at H
  rwa [if_neg (by rw [hn]; simp), if_neg ht] at H

theorem text_of_bytes {l : List UInt8} {s : ByteArray} (h : (⟨l.toArray⟩ : ByteArray) = s) : l = s.data.toList := by rw [← h]

set_option maxHeartbeats 2000000 in
theorem parse_num (s : ByteArray) (x y er : Int) (w : World) (hs : s.size ≤ 1000) (hn : Hid (numB s.data.toList = true)) (H : Hid (ParseIs s x y er)) (hd : Hid ((body s).data.toList.all isDig = true)) :
    Calls Try.prog 23 #[.string s] w fun e w' => e = .returned (.tuple #[.agg #[.int .i64 (x), .int .u64 (y)], .int .i64 er]) ∧ Below w.heap.size w w' := by
  obtain ⟨t, ht⟩ : ∃ t, body s = t := ⟨_, rfl⟩
  obtain ⟨neg, hneg⟩ : ∃ neg, negB s = neg := ⟨_, rfl⟩
  have ht : Hid (body s = t) := ht
  have hneg : Hid (negB s = neg) := hneg
  have hts : t.size ≤ 1000 := by
    rw [← ht.out]; unfold body
    split
    · simp; omega
    · exact hs
  rw [ht.out] at hd
  have k1 := fun w => isNumber_is s true hs hn w
  have k2 := fun w => cut_is s t neg ht hneg w
  go_enter Try.func23, Try.ntmps23
  go_wp2_with (first
    | (go_at_call 39; (with_reducible refine (k1 _).mono ?_); rintro e w2 ⟨rfl, rfl⟩)
    | (go_at_call 40; (with_reducible refine (k2 _).mono ?_); rintro e w2 ⟨rfl, rfl⟩))
  go_loopw [20] (fun i wr => ∃ (k : Nat) (h l : Int), k ≤ t.size ∧ i = .int .i64 (k : Int) ∧ Rep h l (sm (valD (t.data.toList.take k))) ∧ WideAt wr (w.heap.size + 1) h l ∧ WideAt wr w.heap.size 0 0 ∧ Below w.heap.size w wr) (fun i _ => t.size - (intOf i).toNat)
  case atStart => exact ⟨0, 0, 0, Nat.zero_le _, rfl, rep_start _, ⟨by simp [go_sem], by simp [go_sem], by simp [go_sem], by simp [go_sem]⟩, ⟨by simp [go_sem], by simp [go_sem], by simp [go_sem], by simp [go_sem]⟩, by (repeat (first | exact Below.refl _ _ | refine Below.drew ?_ | refine below_drewN ?_ _ | (refine Below.setCell ?_ (by simp; try omega) _) | (refine below_new ?_ _ (by simp; try omega)) | (refine below_on ?_ (by assumption)) | (refine below_next ?_ (by assumption) (by simp; try omega)) | assumption))⟩
  case round =>
    obtain ⟨k, h, l, hk, rfl, A, hA, hO, hbel⟩ := hrel
    by_cases hlt : k < t.size
    · have hdk := dig_at t k hlt hd.out
      obtain ⟨d1, d2⟩ := hdk
      obtain ⟨h2, l2, B⟩ := rep_sm (sm (valD (t.data.toList.take k)) * 10)
      have C : Rep 0 ((t[k].toNat : Int) - 48) ((t[k].toNat : Int) - 48) := ⟨by decide, by decide, by omega, by omega, by omega⟩
      obtain ⟨h3, l3, D⟩ := rep_sm (sm (sm (valD (t.data.toList.take k)) * 10) + ((t[k].toNat : Int) - 48))
      have D2 := D
      rw [step_is t k hlt d1] at D2
      have k3 := fun w => times_any h l 10 h2 l2 _ _ w (by decide) (by decide) A B (sm_cong _)
      have k4 := fun w => of_any ((t[k].toNat : Int) - 48) _ _ w (by omega) (by omega) C
      have k5 := fun w => add_any h2 l2 _ _ h3 l3 _ _ _ w B C D (sm_cong _)
      obtain ⟨dd, hdd⟩ : ∃ dd, (t[k].toNat : Int) - 48 = dd := ⟨_, rfl⟩
      rw [hdd] at k4 k5
      have hw8 : IntKind.u8.wrap dd = dd := by rw [IntKind.wrap_u8]; omega
      have hw9 : IntKind.i64.wrap dd = dd := by rw [IntKind.wrap_i64]; omega
      have hk1 : (k : Int) < (t.size : Int) := by omega
      have hk2 : (0 : Int) ≤ (k : Int) := by omega
      have hd0 : 0 ≤ dd := by omega
      obtain ⟨g0, g1, g2, g3⟩ := hA
      have hr : w.heap.size + 1 < wr.heap.size := World.block_lt_of_cell? wr _ g0
      clear A B C D
      have HD := Lib.hid D2
      clear D2
      go_wp2_with fail
      have hA0 : WideAt wr.drew (w.heap.size + 1) h l := ⟨g0, g1, g2, g3⟩
      go_region_with ((first
          | (go_at_call 20; refine (k3 _).mono ?_; rintro e wt ⟨rfl, hbt⟩; have hAt := WideAt.below (by assumption) hbt; have k0t := hAt.c0; have k1t := hAt.c1; have k2t := hAt.f0; have k3t := hAt.f1)
          | (go_at_call 27; refine (k4 _).mono ?_; rintro e wo ⟨rfl, hbo⟩; have hAo := WideAt.below (by assumption) hbo; have k0o := hAo.c0; have k1o := hAo.c1; have k2o := hAo.f0; have k3o := hAo.f1)
          | (go_at_call 14; refine (k5 _).mono ?_; rintro e wa ⟨rfl, hba⟩; have hAa := WideAt.below (by assumption) hba; have k0a := hAa.c0; have k1a := hAa.c1; have k2a := hAa.f0; have k3a := hAa.f1)))
      all_goals as_aux_lemma =>
        go_wp2
        go_roundw
        case rel => exact ⟨k + 1, h3, l3, by omega, by go_num, HD.out, ⟨by simp [go_sem, k0a], by simp [go_sem, k1a], by simp [go_sem, k2a], by simp [go_sem, k3a]⟩, by (repeat (first | assumption | (refine WideAt.other ?_ _ _ (by simp)) | (refine WideAt.drew ?_) | (refine WideAt.below ?_ (by assumption)))), by (repeat (first | exact Below.refl _ _ | refine Below.drew ?_ | refine below_drewN ?_ _ | (refine Below.setCell ?_ (by simp; try omega) _) | (refine below_new ?_ _ (by simp; try omega)) | (refine below_on ?_ (by assumption)) | (refine below_next ?_ (by assumption) (by simp; try omega)) | assumption))⟩
        case measure => simp [intOf]; omega
    · have e : k = t.size := by omega
      subst e
      have A2 : Rep h l (digitsOf s) := by
        unfold digitsOf
        rw [ht.out]
        rwa [List.take_of_length_le (by simp)] at A
      clear A hd hts hk hlt k1 k2
      have hr1 := hA.room
      have hr2 := hO.room
      obtain ⟨g0, g1, g2, g3⟩ := hA
      obtain ⟨o0, o1, o2, o3⟩ := hO
      cases neg
      · have hp : parsed s = digitsOf s := by unfold parsed; rw [hneg.out, if_neg (by simp)]
        obtain ⟨T, hT⟩ : ∃ T : ByteArray, (⟨(textOf (digitsOf s)).toArray⟩ : ByteArray) = T := ⟨_, rfl⟩
        have k3 := fun w => text_any h l _ w A2
        rw [hT] at k3
        by_cases hTs : T = s
        · have hxy := parse_yes H.out hn.out (by rw [hp]; exact text_of_bytes (hT.trans hTs)) (by rw [hp]; exact A2)
          subst hTs
          obtain ⟨rfl, rfl, rfl⟩ := hxy
          clear hT H hn ht hneg hp A2
          as_aux_lemma =>
          go_wp2_with (go_at_call 25; (with_reducible refine (k3 _).mono ?_); rintro e w3 ⟨rfl, hb⟩; obtain ⟨hc, hf⟩ := bcell hb; have hz := hb.size; (try simp at hz))
          exact bodyPost_ret (v := .tuple #[.agg #[.int .i64 (h), .int .u64 (l)], .int .i64 0]) (by simp [results, Try.results23, go_sem, hc, o0, o1, hr2]) rfl ⟨rfl, by (repeat (first | exact Below.refl _ _ | refine Below.drew ?_ | refine below_drewN ?_ _ | (refine Below.setCell ?_ (by simp; try omega) _) | (refine below_new ?_ _ (by simp; try omega)) | (refine below_on ?_ (by assumption)) | (refine below_next ?_ (by assumption) (by simp; try omega)) | assumption))⟩
        · have hne := text_ne hTs
          have hxy := parse_no H.out hn.out (by rw [hp]; intro e; exact hTs (by rw [← hT, e]))
          obtain ⟨rfl, rfl, rfl⟩ := hxy
          clear hT H hn ht hneg hp A2 hTs
          as_aux_lemma =>
          go_wp2_with (go_at_call 25; (with_reducible refine (k3 _).mono ?_); rintro e w3 ⟨rfl, hb⟩; obtain ⟨hc, hf⟩ := bcell hb; have hz := hb.size; (try simp at hz))
          exact bodyPost_ret (v := .tuple #[.agg #[.int .i64 (0), .int .u64 (0)], .int .i64 11]) (by simp [results, Try.results23, go_sem, hc, o0, o1, hr2]) rfl ⟨rfl, by (repeat (first | exact Below.refl _ _ | refine Below.drew ?_ | refine below_drewN ?_ _ | (refine Below.setCell ?_ (by simp; try omega) _) | (refine below_new ?_ _ (by simp; try omega)) | (refine below_on ?_ (by assumption)) | (refine below_next ?_ (by assumption) (by simp; try omega)) | assumption))⟩
      · have hp : parsed s = sm (-(digitsOf s)) := by unfold parsed; rw [hneg.out, if_pos rfl]
        obtain ⟨h2, l2, A3⟩ := rep_sm (-(digitsOf s))
        obtain ⟨T, hT⟩ : ∃ T : ByteArray, (⟨(textOf (sm (-(digitsOf s)))).toArray⟩ : ByteArray) = T := ⟨_, rfl⟩
        have k3 := fun w => text_any h2 l2 _ w A3
        have k4 := fun w => neg_any h l h2 l2 _ _ w A2 A3 (sm_cong _)
        rw [hT] at k3
        by_cases hTs : T = s
        · have hxy := parse_yes H.out hn.out (by rw [hp]; exact text_of_bytes (hT.trans hTs)) (by rw [hp]; exact A3)
          subst hTs
          obtain ⟨rfl, rfl, rfl⟩ := hxy
          clear hT H hn ht hneg hp A2 A3
          as_aux_lemma =>
          go_wp2_with (first
            | (go_at_call 16; (with_reducible refine (k4 _).mono ?_); rintro e w4 ⟨rfl, hbn⟩; obtain ⟨hcn, hfn⟩ := bcell hbn; have hzn := hbn.size; (try simp at hzn); have hr3 := Nat.lt_of_lt_of_le hr1 hbn.size; have hr4 := Nat.lt_of_lt_of_le hr2 hbn.size)
            | (go_at_call 25; (with_reducible refine (k3 _).mono ?_); rintro e w3 ⟨rfl, hb⟩; obtain ⟨hc, hf⟩ := bcell hb; have hz := hb.size; (try simp at hz)))
          exact bodyPost_ret (v := .tuple #[.agg #[.int .i64 (h2), .int .u64 (l2)], .int .i64 0]) (by simp [results, Try.results23, go_sem, hc, hcn, o0, o1, hr2, hr4]) rfl ⟨rfl, by (repeat (first | exact Below.refl _ _ | refine Below.drew ?_ | refine below_drewN ?_ _ | (refine Below.setCell ?_ (by simp; try omega) _) | (refine below_new ?_ _ (by simp; try omega)) | (refine below_on ?_ (by assumption)) | (refine below_next ?_ (by assumption) (by simp; try omega)) | assumption))⟩
        · have hne := text_ne hTs
          have hxy := parse_no H.out hn.out (by rw [hp]; intro e; exact hTs (by rw [← hT, e]))
          obtain ⟨rfl, rfl, rfl⟩ := hxy
          clear hT H hn ht hneg hp A2 A3 hTs
          as_aux_lemma =>
          go_wp2_with (first
            | (go_at_call 16; (with_reducible refine (k4 _).mono ?_); rintro e w4 ⟨rfl, hbn⟩; obtain ⟨hcn, hfn⟩ := bcell hbn; have hzn := hbn.size; (try simp at hzn); have hr3 := Nat.lt_of_lt_of_le hr1 hbn.size; have hr4 := Nat.lt_of_lt_of_le hr2 hbn.size)
            | (go_at_call 25; (with_reducible refine (k3 _).mono ?_); rintro e w3 ⟨rfl, hb⟩; obtain ⟨hc, hf⟩ := bcell hb; have hz := hb.size; (try simp at hz)))
          exact bodyPost_ret (v := .tuple #[.agg #[.int .i64 (0), .int .u64 (0)], .int .i64 11]) (by simp [results, Try.results23, go_sem, hc, hcn, o0, o1, hr2, hr4]) rfl ⟨rfl, by (repeat (first | exact Below.refl _ _ | refine Below.drew ?_ | refine below_drewN ?_ _ | (refine Below.setCell ?_ (by simp; try omega) _) | (refine below_new ?_ _ (by simp; try omega)) | (refine below_on ?_ (by assumption)) | (refine below_next ?_ (by assumption) (by simp; try omega)) | assumption))⟩

theorem numB_digits {s : ByteArray} (h : numB s.data.toList = true) : (body s).data.toList.all isDig = true := by
  by_cases h0 : (body s).size = 0
  · rw [numB_nil s h0] at h; exact absurd h (by simp)
  · have hp : 0 < (body s).size := by omega
    rw [numB_cons s hp] at h
    split at h
    · have e := of_decide_eq_true h
      rw [body_list, e]; decide
    · exact h

set_option maxHeartbeats 400000 in
theorem parse_is (s : ByteArray) (x y er : Int) (w : World) (hs : s.size ≤ 1000) (H : Hid (ParseIs s x y er)) :
    Calls Try.prog 23 #[.string s] w fun e w' => e = .returned (.tuple #[.agg #[.int .i64 (x), .int .u64 (y)], .int .i64 er]) ∧ Below w.heap.size w w' := by
  by_cases hn : numB s.data.toList = true
  · exact parse_num s x y er w hs hn H (numB_digits hn)
  · have hn : numB s.data.toList = false := by simpa using hn
    have k1 := fun w => isNumber_is s false hs hn w
    have H2 := H.out
    unfold ParseIs at H2
    rw [if_pos hn] at H2
    obtain ⟨rfl, rfl, rfl⟩ := H2
    clear H hn
    go_enter Try.func23, Try.ntmps23
    go_wp2_with (go_at_call 39; (with_reducible refine (k1 _).mono ?_); rintro e w2 ⟨rfl, rfl⟩)
    exact bodyPost_ret (v := .tuple #[.agg #[.int .i64 (0), .int .u64 (0)], .int .i64 10]) (by simp [results, Try.results23, go_sem]) rfl ⟨rfl, by (repeat (first | exact Below.refl _ _ | refine Below.drew ?_ | refine below_drewN ?_ _ | (refine Below.setCell ?_ (by simp; try omega) _) | (refine below_new ?_ _ (by simp; try omega)) | (refine below_on ?_ (by assumption)) | (refine below_next ?_ (by assumption) (by simp; try omega)) | assumption))⟩
end Go.Proofs.Ytafgfpppemdedaa

/- The walk of law WindowTakes. -/
import Derived.Test.YtdkenokjdiamhaaDoorWindowTwoMath
import Derived.Test.YtdkenokjdiamhaaDoorWindowArgs
import Derived.Deep.RegionHeld
set_option maxRecDepth 20000
namespace Go.Proofs.YtdkenokjdiamhaaDoor
open Go.RowKit

theorem OpO.new8 (w : World) (a : OpI) : OpO (w.alloc (.cells #[.int .i64 a.k, .int .i64 a.f, .int .i64 a.n] 51)) w.heap.size 0 a := by constructor <;> simp [go_sem]
theorem new_nil (w : World) : Calls Tryd.prog 33 #[.slice none 0 0] w (NewDone [] w) := new_is none 0 [] (Or.inl rfl) (Lib.hid fun k h => by simp at h) (by simp) w ⟨Or.inl rfl⟩
theorem newOk_nil {T : List Sp} (h : NewOk [] T) : T = [] := by
  refine Canon.uniq h.canon ⟨List.Pairwise.nil, by simp⟩ fun x => ?_
  rw [h.has x]; unfold inS; simp
/-- Held: both sets, the last call, the widths. -/
structure TK (w : World) (o : OpI) (ba bb : Nat) (va vb : Value) (La Lb : List Sp) (wr : World) : Prop where
  two : Two wr ba bb va vb La Lb
  op : OpO wr w.heap.size 0 o
  tab : Tab wr
  bel : Below w.heap.size w wr
  ga : w.heap.size + 1 ≤ ba
  gb : w.heap.size + 1 ≤ bb
theorem TK.keep {w w1 w2 : World} {o : OpI} {ba bb : Nat} {va vb : Value} {La Lb : List Sp} (h : TK w o ba bb va vb La Lb w1) (k : Below w1.heap.size w1 w2) : TK w o ba bb va vb La Lb w2 := ⟨h.two.keep k, h.op.below k h.op.room, h.tab.next k, bel_next h.bel k, h.ga, h.gb⟩
theorem TK.drew {w w1 : World} {o : OpI} {ba bb : Nat} {va vb : Value} {La Lb : List Sp} (h : TK w o ba bb va vb La Lb w1) : TK w o ba bb va vb La Lb w1.drew := h.keep ((Below.refl _ _).drew)
theorem TK.upto {w w1 w2 : World} {o : OpI} {ba bb : Nat} {va va' vb vb' : Value} {La Lb La' Lb' : List Sp} (h : TK w o ba bb va vb La Lb w1) (hT : Tab w) (k : Below (w.heap.size + 1) w1 w2) (h2 : Two w2 ba bb va' vb' La' Lb') : TK w o ba bb va' vb' La' Lb' w2 :=
  ⟨h2, h.op.below k (Nat.lt_succ_self _), h.tab.below k (by have := hT.room; omega), h.bel.trans (k.mono (Nat.le_succ _)), h.ga, h.gb⟩
theorem TK.moveA {w w1 w2 : World} {o : OpI} {ba bb : Nat} {va va' vb : Value} {La La' Lb : List Sp} (h : TK w o ba bb va vb La Lb w1) (hT : Tab w) (k : Moves w1 w2 ba va va') (hs : SetAt w2 ba va' La') : TK w o ba bb va' vb La' Lb w2 :=
  h.upto hT (k.below (by have := h.op.room; omega) h.ga (fun q e => by have := (World.ownsRow.lt h.two.a.row q e).1; have := h.ga; omega)) (h.two.moveA k hs)
theorem TK.moveB {w w1 w2 : World} {o : OpI} {ba bb : Nat} {va vb vb' : Value} {La Lb Lb' : List Sp} (h : TK w o ba bb va vb La Lb w1) (hT : Tab w) (k : Moves w1 w2 bb vb vb') (hs : SetAt w2 bb vb' Lb') : TK w o ba bb va vb' La Lb' w2 :=
  h.upto hT (k.below (by have := h.op.room; omega) h.gb (fun q e => by have := (World.ownsRow.lt h.two.b.row q e).1; have := h.gb; omega)) (h.two.swap.moveA k hs).swap
/-- The times of the first k spans of l. -/
def upTo (l : List OpI) (k : Nat) (x : Int) : Prop := ∃ i, ∃ h : i < l.length, i < k ∧ cov l[i].sp x
/-- Those of the last k of the first n. -/
def downTo (l : List OpI) (n k : Nat) (x : Int) : Prop := ∃ i, ∃ h : i < l.length, i < n ∧ n ≤ i + k ∧ cov l[i].sp x
theorem cov_lt {o : OpI} {x : Int} (h : cov o.sp x) : x < 460 := by
  have := opSp_bounds o.f o.n
  have e : o.sp = opSp o.f o.n := rfl
  unfold cov at h
  rw [e] at h
  omega
/-- A set that has the times Q. -/
structure Has (L : List Sp) (Q : Int → Prop) : Prop where
  canon : Canon L
  has : ∀ x, inS L x ↔ Q x
theorem Has.few {L : List Sp} {Q : Int → Prop} (h : Has L Q) (hq : ∀ x, Q x → x < 460) : (∀ x, inS L x → x < 1000) ∧ L.length ≤ 1000 ∧ (∀ p ∈ L, p.t ≤ 1099511627777) := by
  have h1 : ∀ x, inS L x → x < 1000 := fun x hx => by have := hq x ((h.has x).1 hx); omega
  exact ⟨h1, h.canon.len_le (K := 1000) h1, fun p hp => by have := h.canon.top h1 p hp; omega⟩
theorem Has.add {L T : List Sp} {Q : Int → Prop} {s : Sp} (h : Has L Q) (k : AddOk L s T) : Has T (fun x => Q x ∨ cov s x) := ⟨k.canon, fun x => by rw [k.has x, h.has x]; rfl⟩
theorem Has.take {L T : List Sp} {Q : Int → Prop} {s : Sp} (h : Has L Q) (k : TakeOk L s T) : Has T (fun x => Q x ∧ ¬ cov s x) := ⟨k.canon, fun x => by rw [k.has x, h.has x]; rfl⟩
theorem Has.same {L M : List Sp} {Q P : Int → Prop} (h : Has L Q) (k : Has M P) (e : ∀ x, Q x ↔ P x) : L = M := Canon.uniq h.canon k.canon fun x => by rw [h.has x, k.has x, e x]
theorem upTo_step (l : List OpI) (k : Nat) (hk : k < l.length) (x : Int) : (upTo l k x ∨ cov l[k].sp x) ↔ upTo l (k + 1) x := by
  unfold upTo
  constructor
  · rintro (⟨i, h, h1, h2⟩ | h)
    · exact ⟨i, h, by omega, h2⟩
    · exact ⟨k, hk, by omega, h⟩
  · rintro ⟨i, h, h1, h2⟩
    by_cases e : i = k
    · subst e; exact Or.inr h2
    · exact Or.inl ⟨i, h, by omega, h2⟩
theorem downTo_step (l : List OpI) (n k j : Nat) (hj : j < l.length) (hn : n = j + k + 1) (x : Int) : (downTo l n k x ∨ cov l[j].sp x) ↔ downTo l n (k + 1) x := by
  unfold downTo
  constructor
  · rintro (⟨i, h, h1, h2, h3⟩ | h)
    · exact ⟨i, h, h1, by omega, h3⟩
    · exact ⟨j, hj, by omega, by omega, h⟩
  · rintro ⟨i, h, h1, h2, h3⟩
    by_cases e : i = j
    · subst e; exact Or.inr h3
    · exact Or.inl ⟨i, h, h1, by omega, h3⟩
theorem updown (l : List OpI) (n : Nat) (x : Int) : upTo l n x ↔ downTo l n n x := by
  unfold upTo downTo
  constructor
  · rintro ⟨i, h, h1, h2⟩; exact ⟨i, h, h1, by omega, h2⟩
  · rintro ⟨i, h, h1, _, h2⟩; exact ⟨i, h, h1, h2⟩
theorem Has.congr {L : List Sp} {Q P : Int → Prop} (h : Has L Q) (e : ∀ x, Q x ↔ P x) : Has L P := ⟨h.canon, fun x => (h.has x).trans (e x)⟩
theorem Has.nil {Q : Int → Prop} (h : ∀ x, ¬ Q x) : Has [] Q := ⟨⟨List.Pairwise.nil, by simp⟩, fun x => Iff.intro (fun hx => (by obtain ⟨s, hs, _⟩ := hx; cases hs)) (fun hx => absurd hx (h x))⟩


theorem changed_iff {T L : List Sp} {z : Bool} (h : (T ≠ L) ↔ z = true) : changed T L = z := by
  unfold changed
  cases z with
  | true => exact decide_eq_true (h.2 rfl)
  | false => exact decide_eq_false (fun e => by have := h.1 e; cases this)
theorem cov_iff {s : Sp} (h : s.is = true) (x : Int) : cov s x ↔ s.f ≤ x ∧ x < s.t := by
  have := Sp.is_iff.1 h
  unfold cov
  rw [Sp.some_iff]
  omega
theorem no_cov {s : Sp} (h : s.is = false) (x : Int) : ¬ cov s x := by
  rintro ⟨h1, _⟩
  unfold Sp.some_ at h1
  rw [h] at h1
  cases h1

/-- Held in the last region: the span. -/
structure FK (w : World) (ps : Nat) (s : Sp) (wr : World) : Prop where
  at_ : SpAt wr ps s
  bel : Below w.heap.size w wr
theorem FK.keep {w w1 w2 : World} {ps : Nat} {s : Sp} (h : FK w ps s w1) (k : Below w1.heap.size w1 w2) : FK w ps s w2 := ⟨h.at_.below k, bel_next h.bel k⟩
theorem FK.drew {w w1 : World} {ps : Nat} {s : Sp} (h : FK w ps s w1) : FK w ps s w1.drew := h.keep ((Below.refl _ _).drew)

set_option maxHeartbeats 16000000 in
theorem takes_many (a0 : Option Addr) (len cap n : Nat) (o : OpI) (w : World) (hl : ArgOps w a0 len cap) (hT : Tab w) (hn : 12 < len) (hne : n = 12) :
    Calls Tryd.prog 9 #[.slice a0 len cap, o.v] w fun e w' => e = .returned (.bool true) ∧ Below w.heap.size w w' := by
  obtain ⟨l, hll, hops, hlen, -⟩ := hl.has
  have hO0 := OpO.new8 w o
  have hB0 := (Below.refl w.heap.size w).alloc (Nat.le_refl _) (.cells #[.int .i64 o.k, .int .i64 o.f, .int .i64 o.n] 51)
  have hT0 := hT.alloc (.cells #[.int .i64 o.k, .int .i64 o.f, .int .i64 o.n] 51)
  have k0 := awake_is _ hT0
  have kn := new_nil
  have ksp := fun (p : OpI) (w : World) => span_is p.k p.f p.n p.sp w (Lib.hid rfl)
  unfold OpI.v
  unfold Sp.v at ksp
  have HC := Lib.hid (show ∀ i (h : i < l.length) (wr : World), Below w.heap.size w wr → ∃ g off, a0 = some ⟨g, off, none⟩ ∧ OpO wr g (off + i * 3) l[i] from fun i h wr hb => by
    rcases hops.at_ with e | ⟨g, off, e, hg, hc⟩
    · rw [e] at h; simp at h
    · exact ⟨g, off, e, (hc i h).below hb hg⟩)
  have HO := Lib.hid hO0
  have HB := Lib.hid hB0
  have HT := Lib.hid hT0
  have HTw := Lib.hid hT
  have HLL := Lib.hid hll
  clear hl hO0 hB0 hT0 hops hll
  have hnb : (12 : Int) < (len : Int) := by omega
  go_enter Tryd.func9, Tryd.ntmps9
  go_wp2_with (first
    | (go_at_call 10; (with_reducible refine k0.mono ?_); rintro e w1 ⟨rfl, hb⟩; (have HB1 := Lib.hid (bel_next HB.out hb)); (have HO1 := Lib.hid (HO.out.below hb HO.out.room)); (have HT1 := Lib.hid (HT.out.next hb)); (have HS1 := Lib.hid hb.size); clear hb)
    | (go_at_call 33; first
      | ((with_reducible refine (kn _).mono ?_); rintro e w3 ⟨bb, vb, Tb, rfl, hgb, hsb, hob, hb⟩; (obtain rfl := newOk_nil hob); (have HB3 := Lib.hid (bel_next HB2.out hb)); (have HO3 := Lib.hid (HO2.out.below hb HO2.out.room)); (have HT3 := Lib.hid (HT2.out.next hb)); (have HSA3 := Lib.hid (HSA.out.later hb)); (have HSB3 := Lib.hid hsb); (have HGB := Lib.hid hgb); clear hb hsb hgb hob)
      | ((with_reducible refine (kn _).mono ?_); rintro e w2 ⟨ba, va, Ta, rfl, hga, hsa, hoa, hb⟩; (obtain rfl := newOk_nil hoa); (have HB2 := Lib.hid (bel_next HB1.out hb)); (have HO2 := Lib.hid (HO1.out.below hb HO1.out.room)); (have HT2 := Lib.hid (HT1.out.next hb)); (have HSA := Lib.hid hsa); (have HGA := Lib.hid hga); clear hb hsa hga hoa)))
  have HK : Hid (TK w o ba bb va vb [] [] w3) := Lib.hid (by
    have g1 := HGA.out
    have g2 := HGB.out
    have g3 := HS1.out
    have g4 := HSA.out.room
    simp at g3
    refine ⟨⟨HSA3.out, HSB3.out, by omega, fun e => ?_, fun e => ?_, fun q e e2 => ?_⟩, HO3.out, HT3.out, HB3.out, by omega, by omega⟩
    · have := (World.ownsRow.lt HSA.out.row _ e).2; omega
    · have := (World.ownsRow.lt HSB3.out.row _ e).1; omega
    · have := (World.ownsRow.lt HSA.out.row _ e).2; have := (World.ownsRow.lt HSB3.out.row _ e2).1; omega)
  go_loopw [9] (fun x wr => ∃ (i : Nat) (va vb : Value) (La Lb : List Sp), x = .int .i64 (i : Int) ∧ i ≤ n ∧ TK w o ba bb va vb La Lb wr ∧ Has La (upTo l i) ∧ Has Lb (downTo l n i)) (fun x _ => n - (intOf x).toNat)
  case atStart => exact ⟨0, va, vb, [], [], rfl, Nat.zero_le _, HK.out, Has.nil (fun x ⟨i, h, h1, _⟩ => by omega), Has.nil (fun x ⟨i, h, h1, h2, _⟩ => by omega)⟩
  case round =>
    obtain ⟨i, va, vb, La, Lb, rfl, hi, hTK, hLA, hLB⟩ := hrel
    obtain ⟨w3b, hw3⟩ : ∃ x, x = wr := ⟨_, rfl⟩
    subst hw3
    have HTK := Lib.hid hTK
    have HLA := Lib.hid hLA
    have HLB := Lib.hid hLB
    have HLAL := Lib.hid (hLA.few (fun x ⟨i, h, _, h2⟩ => cov_lt h2)).2.1
    have HLBL := Lib.hid (hLB.few (fun x ⟨i, h, _, _, h2⟩ => cov_lt h2)).2.1
    clear hTK hLA hLB
    by_cases hin : i < n
    · have hini : (i : Int) < (12 : Int) := by omega
      have hiL : i < l.length := by rw [HLL.out]; omega
      obtain ⟨j, hj⟩ : ∃ j, n - 1 - i = j := ⟨_, rfl⟩
      have hjL : j < l.length := by rw [HLL.out]; omega
      have hji : (11 : Int) - (i : Int) = (j : Int) := by omega
      have hwj : IntKind.i64.wrap (j : Int) = (j : Int) := by rw [IntKind.wrap_i64]; omega
      have hwi : IntKind.i64.wrap ((i : Int) + 1) = (i : Int) + 1 := by rw [IntKind.wrap_i64]; omega
      have hil : (i : Int) < (len : Int) := by omega
      have hjl : (j : Int) < (len : Int) := by omega
      have hiln : i < len := by omega
      have hjln : j < len := by omega
      have hd : n = j + i + 1 := by omega
      obtain ⟨p, hp⟩ : ∃ p, l[i] = p := ⟨_, rfl⟩
      obtain ⟨r, hr⟩ : ∃ r, l[j] = r := ⟨_, rfl⟩
      obtain ⟨g, off, rfl, cp⟩ := HC.out i hiL w3b HTK.out.bel
      have HC2 := Lib.hid (show ∀ wr : World, Below w.heap.size w wr → OpO wr g (off + j * 3) r from fun wr hb => by
        obtain ⟨g2, off2, e, h⟩ := HC.out j hjL wr hb
        injection e with e; injection e with e1 e2; subst e1 e2
        rw [← hr]; exact h)
      rw [hp] at cp
      obtain ⟨p0, p1, p2⟩ := cp
      have HPS := Lib.hid (show ∀ x, (upTo l i x ∨ cov p.sp x) ↔ upTo l (i + 1) x from fun x => by rw [← hp]; exact upTo_step l i hiL x)
      have HRS := Lib.hid (show ∀ x, (downTo l n i x ∨ cov r.sp x) ↔ downTo l n (i + 1) x from fun x => by rw [← hr]; exact downTo_step l n i j hjL hd x)
      clear hp hr hj hd
      go_wp2_with (first
        | (go_at_call 34; first
          | ((with_reducible refine (ksp r _).mono ?_); rintro e w6 ⟨rfl, hb⟩; (have H6 := Lib.hid (H5.out.keep hb)); (have kA2 := add_is bb vb Lb r.sp w6 H6.out.two.b HLB.out.canon (by have := HLBL.out; omega)); unfold Sp.v at kA2; clear hb)
          | ((with_reducible refine (ksp p _).mono ?_); rintro e w4 ⟨rfl, hb⟩; (have H4 := Lib.hid (HTK.out.keep hb)); (have kA1 := add_is ba va La p.sp w4 H4.out.two.a HLA.out.canon (by have := HLAL.out; omega)); unfold Sp.v at kA1; clear hb))
        | (go_at_call 37; first
          | ((with_reducible refine kA2.mono ?_); rintro e w7 ⟨Tb, ⟨vb2, rfl, hset, hmv⟩, hok⟩; (have H7 := Lib.hid (H6.out.moveB HTw.out hmv hset)); (have HB7 := Lib.hid (HLB.out.add hok)); clear hset hmv hok)
          | ((with_reducible refine kA1.mono ?_); rintro e w5 ⟨Ta, ⟨va2, rfl, hset, hmv⟩, hok⟩; (have H5 := Lib.hid (H4.out.moveA HTw.out hmv hset)); (have HA5 := Lib.hid (HLA.out.add hok)); (have cr := HC2.out w5 H5.out.bel); (obtain ⟨r0, r1, r2⟩ := cr); clear hset hmv hok)))
      go_roundw
      case rel => exact ⟨i + 1, va2, vb2, Ta, Tb, by go_num, hin, H7.out, HA5.out.congr HPS.out, HB7.out.congr HRS.out⟩
      case measure => simp [intOf]; omega
    · have hini : ¬ (i : Int) < (12 : Int) := by omega
      obtain rfl : i = n := by omega
      obtain rfl : La = Lb := HLA.out.same HLB.out (updown l i)
      clear HLB HLBL
      obtain ⟨s, hs⟩ : ∃ s, o.sp = s := ⟨_, rfl⟩
      have ksv := fun w => (show Calls Tryd.prog 34 #[.agg #[.int .i64 o.k, .int .i64 o.f, .int .i64 o.n]] w fun e w' => e = .returned (s.v) ∧ Below w.heap.size w w' by rw [← hs]; exact span_is o.k o.f o.n o.sp w (Lib.hid rfl))
      have hsb := opSp_bounds o.f o.n
      rw [show opSp o.f o.n = s from hs] at hsb
      have hcl : ∀ x, cov s x → x < 460 := fun x h => by rw [← hs] at h; exact cov_lt h
      have HCL := Lib.hid hcl
      have hqa : ∀ x, upTo l i x → x < 460 := fun x ⟨i, h, _, h2⟩ => cov_lt h2
      obtain ⟨fa1, fa2, fa3⟩ := HLA.out.few hqa
      have HFA := Lib.hid fa1
      have HFA3 := Lib.hid fa3
      have kc := fun w => check_is s _ w (Lib.hid rfl)
      have kpa := pspans_is ba va La w3b HTK.out.two.a (by omega)
      have HQA := Lib.hid hqa
      have hsame := fun (x y : Option Addr) (cx cy : Nat) (wr : World) (h1 : Sps wr wr.heap.size x La) (h2 : Sps wr wr.heap.size y La) => same_is x y cx cy La La true wr h1 h2 (by omega) (by omega) (Lib.hid (by simp))
      unfold Sp.v at ksv kc
      clear hs hcl hqa fa1 fa3
      cases hsi : s.is with
      | false =>
        rw [hsi] at kc
        rw [show errI false = 1 from rfl] at kc
        have HNC := Lib.hid (fun x => no_cov hsi x)
        go_wp2_with (first
          | (go_at_call 39; first
            | ((with_reducible refine kpb.mono ?_); rintro e w9 ⟨v9, rfl, hR, hb⟩; (obtain ⟨a9, c9, rfl⟩ := hR.slice); (have H9 := Lib.hid (H8.out.keep hb)); (have kss := hsame a8 a9 c8 c9 w9 ((HSP8.out.below hb).mono hb.size) hR.sps); clear hb hR)
            | ((with_reducible refine kpa.mono ?_); rintro e w8 ⟨v8, rfl, hR, hb⟩; (obtain ⟨a8, c8, rfl⟩ := hR.slice); (have H8 := Lib.hid (HTK.out.keep hb)); (have HSP8 := Lib.hid hR.sps); (have kpb := pspans_is bb vb La w8 H8.out.two.b (by omega)); clear hb hR))
          | (go_at_call 18; (with_reducible refine kss.mono ?_); rintro e w10 ⟨rfl, hb⟩; (have H10 := Lib.hid (H9.out.keep hb)); (have hop := H10.out.op); (obtain ⟨o0, o1, o2⟩ := hop); clear hb)
          | (go_at_call 34; (with_reducible refine (ksv _).mono ?_); rintro e w11 ⟨rfl, hb⟩; (have H11 := Lib.hid (H10.out.keep hb)); (have H12 := Lib.hid (H11.out.keep ((Below.refl _ _).alloc (Nat.le_refl _) (.cells #[.int .i64 s.f, .int .i64 s.t] 26)))); (have HS12 := Lib.hid (SpAt.new w11 s 26)); (have hs12 := HS12.out); (obtain ⟨s0, s1⟩ := hs12); (have HNE := Lib.hid (show w11.heap.size ≠ ba by have := H11.out.two.a.room; omega)); (have HNV := Lib.hid (show va.ownBlock ≠ some w11.heap.size from fun e => by have := (World.ownsRow.lt H11.out.two.a.row _ e).2; omega)); clear hb)
          | (go_at_call 22; (with_reducible refine (kc _).mono ?_); rintro e w13 ⟨rfl, hb⟩; (have H13 := Lib.hid (H12.out.keep hb)); (have HS13 := Lib.hid (HS12.out.below hb)); (have hs13 := HS13.out); (obtain ⟨t0, t1⟩ := hs13); clear hb)
          | (go_at_call 37; (have ka := add_is ba va La s w13 H13.out.two.a HLA.out.canon (by omega)); unfold Sp.v at ka; (with_reducible refine ka.mono ?_); rintro e w14 ⟨T, ⟨v14, rfl, hset, hmv⟩, hok⟩; (obtain rfl : T = La := (HLA.out.add hok).same HLA.out (fun x => ⟨fun h => h.elim id (fun h => absurd h (HNC.out x)), Or.inl⟩)); (rw [show changed T T = false from by simp [changed]]); (have HS14 := Lib.hid (HS13.out.moves hmv HNE.out HNV.out)); (have H14 := Lib.hid (H13.out.moveA HTw.out hmv hset)); (have hs14 := HS14.out); (obtain ⟨u0, u1⟩ := hs14); clear hset hmv hok)
          | (go_at_call 35; (have kt := take_is ba v14 T s w14 H14.out.two.a HLA.out.canon (by omega)); unfold Sp.v at kt; (with_reducible refine kt.mono ?_); rintro e w15 ⟨T2, ⟨v15, rfl, hset, hmv⟩, hok⟩; (obtain rfl : T2 = T := (HLA.out.take hok).same HLA.out (fun x => ⟨fun h => h.1, fun h => ⟨h, HNC.out x⟩⟩)); (rw [show changed T2 T2 = false from by simp [changed]]); (have H15 := Lib.hid (H14.out.moveA HTw.out hmv hset)); clear hset hmv hok))
        go_ret
        exact ⟨rfl, H15.out.bel⟩
      | true =>
        rw [hsi] at kc
        rw [show errI true = 0 from rfl] at kc
        have HCV := Lib.hid (fun x => cov_iff hsi x)
        have HIS := Lib.hid hsi
        go_wp2_with (first
          | (go_at_call 39; first
            | ((with_reducible refine kpb.mono ?_); rintro e w9 ⟨v9, rfl, hR, hb⟩; (obtain ⟨a9, c9, rfl⟩ := hR.slice); (have H9 := Lib.hid (H8.out.keep hb)); (have kss := hsame a8 a9 c8 c9 w9 ((HSP8.out.below hb).mono hb.size) hR.sps); clear hb hR)
            | ((with_reducible refine kpa.mono ?_); rintro e w8 ⟨v8, rfl, hR, hb⟩; (obtain ⟨a8, c8, rfl⟩ := hR.slice); (have H8 := Lib.hid (HTK.out.keep hb)); (have HSP8 := Lib.hid hR.sps); (have kpb := pspans_is bb vb La w8 H8.out.two.b (by omega)); clear hb hR))
          | (go_at_call 18; (with_reducible refine kss.mono ?_); rintro e w10 ⟨rfl, hb⟩; (have H10 := Lib.hid (H9.out.keep hb)); (have hop := H10.out.op); (obtain ⟨o0, o1, o2⟩ := hop); clear hb)
          | (go_at_call 34; (with_reducible refine (ksv _).mono ?_); rintro e w11 ⟨rfl, hb⟩; (have H11 := Lib.hid (H10.out.keep hb)); (have H12 := Lib.hid (H11.out.keep ((Below.refl _ _).alloc (Nat.le_refl _) (.cells #[.int .i64 s.f, .int .i64 s.t] 26)))); (have HS12 := Lib.hid (SpAt.new w11 s 26)); (have hs12 := HS12.out); (obtain ⟨s0, s1⟩ := hs12); (have HNE := Lib.hid (show w11.heap.size ≠ ba by have := H11.out.two.a.room; omega)); (have HNV := Lib.hid (show va.ownBlock ≠ some w11.heap.size from fun e => by have := (World.ownsRow.lt H11.out.two.a.row _ e).2; omega)); clear hb)
          | (go_at_call 22; (with_reducible refine (kc _).mono ?_); rintro e w13 ⟨rfl, hb⟩; (have H13 := Lib.hid (H12.out.keep hb)); (have HS13 := Lib.hid (HS12.out.below hb)); (have hs13 := HS13.out); (obtain ⟨t0, t1⟩ := hs13); clear hb)
          | (go_at_call 37; (have ka := add_is ba va La s w13 H13.out.two.a HLA.out.canon (by omega)); unfold Sp.v at ka; (with_reducible refine ka.mono ?_); rintro e w14 ⟨T1, ⟨v14, rfl, hset, hmv⟩, hok⟩; (have HA1 := Lib.hid (HLA.out.add hok)); (have HF1 := Lib.hid (HA1.out.few (fun x h => h.elim (HQA.out x) (HCL.out x)))); (have HNV14 := Lib.hid (hmv.not HNV.out HS13.out.room)); (have HS14 := Lib.hid (HS13.out.moves hmv HNE.out HNV.out)); (have H14 := Lib.hid (H13.out.moveA HTw.out hmv hset)); (obtain ⟨zz, hzz⟩ : ∃ z, changed T1 La = z := ⟨_, rfl⟩); (rw [hzz]); clear hset hmv hok hzz)
          | (go_at_call 40; (have kz := psize_is ba v14 T1 w14 H14.out.two.a (fewOk HA1.out.canon HF1.out.1)); (with_reducible refine kz.mono ?_); rintro e w15 ⟨rfl, hb⟩; (have H15 := Lib.hid (H14.out.keep hb)); (have HS15 := Lib.hid (HS14.out.below hb)); (have hs15 := HS15.out); (obtain ⟨u0, u1⟩ := hs15); clear hb)
          | (go_at_call 35; (have kt := take_is ba v14 T1 s w15 H15.out.two.a HA1.out.canon (by have := HF1.out.2.1; omega)); unfold Sp.v at kt; (with_reducible refine kt.mono ?_); rintro e w16 ⟨T2, ⟨v16, rfl, hset, hmv⟩, hok⟩; (have HA2 := Lib.hid (HA1.out.take hok)); (have HF2 := Lib.hid (HA2.out.few (fun x h => h.1.elim (HQA.out x) (HCL.out x)))); (have HNV16 := Lib.hid (hmv.not HNV14.out HS15.out.room)); (have HS16 := Lib.hid (HS15.out.moves hmv HNE.out HNV14.out)); (have H16 := Lib.hid (H15.out.moveA HTw.out hmv hset)); (obtain ⟨zt, hzt⟩ : ∃ z, changed T2 T1 = z := ⟨_, rfl⟩); (rw [hzt]); (have HZT := Lib.hid hzt); clear hset hmv hok hzt))
        have HDD := Lib.hid (show ∀ k : Int, hasD T2 k = (hasD La k && !decide (s.f ≤ k ∧ k < s.t)) from fun k => by
          rw [Bool.eq_iff_iff, Bool.and_eq_true, hasD_iff, hasD_iff, HA2.out.has k, HLA.out.has k, HCV.out k, Bool.not_eq_true', decide_eq_false_iff_not]
          constructor
          · rintro ⟨h1 | h1, h2⟩
            · exact ⟨h1, h2⟩
            · exact absurd h1 h2
          · rintro ⟨h1, h2⟩; exact ⟨Or.inl h1, h2⟩)
        have h13 : sumS T2 = sumS T1 - (s.t - s.f) := size_less (K := 1000) HA1.out.canon HA2.out.canon HF1.out.1 (fun x hx => (HA1.out.has x).2 (Or.inr hx)) (fun x => by rw [HA2.out.has x, HA1.out.has x]) HIS.out
        have hfew2 := fewOk HA2.out.canon HF2.out.1
        have hfew1 := fewOk HA1.out.canon HF1.out.1
        have hb1 := hfew1.bound T1.length
        have hb2 := hfew2.bound T2.length
        rw [List.take_of_length_le (Nat.le_refl _)] at hb1 hb2
        have hl1 := hfew1.len
        have hl2 := hfew2.len
        have hchg : changed T2 T1 = decide (s.f < s.t) := changed_iff (by
          rw [decide_eq_true_eq]
          constructor
          · intro h
            apply Decidable.byContradiction
            intro hn
            exact h (HA2.out.same HA1.out (fun x => ⟨fun h => h.1, fun h => ⟨h, by rw [HCV.out x]; omega⟩⟩))
          · intro h e
            have h1 : inS T1 s.f := (HA1.out.has s.f).2 (Or.inr ((HCV.out s.f).2 ⟨by omega, h⟩))
            rw [← e, HA2.out.has s.f] at h1
            exact h1.2 ((HCV.out s.f).2 ⟨by omega, h⟩))
        have hzt2 : zt = decide (s.f < s.t) := by rw [← hchg]; exact HZT.out.symm
        have HZ2 := Lib.hid hzt2
        obtain ⟨m1, hm1⟩ : ∃ m, sumS T1 = m := ⟨_, rfl⟩
        obtain ⟨m2, hm2⟩ : ∃ m, sumS T2 = m := ⟨_, rfl⟩
        rw [hm1, hm2] at h13
        rw [hm1] at hb1 ⊢
        rw [hm2] at hb2
        have HM2 := Lib.hid hm2
        have hwd : IntKind.i64.wrap (s.t - s.f) = s.t - s.f := by rw [IntKind.wrap_i64]; omega
        have hwm : IntKind.i64.wrap (m1 - (s.t - s.f)) = m1 - (s.t - s.f) := by rw [IntKind.wrap_i64]; omega
        have HM3 := Lib.hid h13
        clear hm1 hm2 hchg hzt2 hb1 hb2 hl1 hl2 hfew1 h13
        have HFW2 := Lib.hid hfew2
        clear hfew2
        go_loopw [14] (fun x wr => ∃ (k : Nat), x = .int .i64 (k : Int) ∧ k ≤ 470 ∧ TK w o ba bb v16 vb T2 La wr ∧ SpAt wr w11.heap.size s) (fun x _ => 470 - (intOf x).toNat)
        case atStart => exact ⟨0, rfl, Nat.zero_le _, H16.out, HS16.out⟩
        case round =>
          obtain ⟨k, rfl, hk3, hTK20, hS20⟩ := hrel
          obtain ⟨w20, hw20⟩ : ∃ x, x = wr := ⟨_, rfl⟩
          subst hw20
          have H20 := Lib.hid hTK20
          have HS20 := Lib.hid hS20
          obtain ⟨v0, v1⟩ := hS20
          clear hTK20
          by_cases hk4 : k < 470
          · have hk4i : (k : Int) < 470 := by omega
            have hwk : IntKind.i64.wrap ((k : Int) + 1) = (k : Int) + 1 := by rw [IntKind.wrap_i64]; omega
            have kha := phas_is ba v16 T2 (k : Int) w20 H20.out.tab (by omega) H20.out.two.a HA2.out.canon HF2.out.2.2 (by have := HF2.out.2.1; omega)
            have khb := fun wr h1 h2 => phas_is bb vb La (k : Int) wr h1 (by omega) h2 HLA.out.canon HFA3.out (by omega)
            by_cases hk1 : s.f ≤ (k : Int)
            · by_cases hk2 : (k : Int) < s.t
              · have hD : hasD T2 (k : Int) = (hasD La (k : Int) && false) := by rw [HDD.out, decide_eq_true ⟨hk1, hk2⟩]; rfl
                cases hz : hasD La (k : Int) with
                | true =>
                  rw [hz] at khb hD
                  rw [hD] at kha
                  clear hz hD
                  go_wp2_with (go_at_call 41; first
                    | ((with_reducible refine (khb _ H21.out.tab H21.out.two.b).mono ?_); rintro e w22 ⟨rfl, hb⟩; (have H22 := Lib.hid (H21.out.keep hb)); (have HS22 := Lib.hid (HS21.out.below hb)); clear hb)
                    | ((with_reducible refine kha.mono ?_); rintro e w21 ⟨rfl, hb⟩; (have H21 := Lib.hid (H20.out.keep hb)); (have HS21 := Lib.hid (HS20.out.below hb)); clear hb))
                  go_roundw
                  case rel => exact ⟨k + 1, by go_num, hk4, H22.out, HS22.out⟩
                  case measure => simp [intOf]; omega
                | false =>
                  rw [hz] at khb hD
                  rw [hD] at kha
                  clear hz hD
                  go_wp2_with (go_at_call 41; first
                    | ((with_reducible refine (khb _ H21.out.tab H21.out.two.b).mono ?_); rintro e w22 ⟨rfl, hb⟩; (have H22 := Lib.hid (H21.out.keep hb)); (have HS22 := Lib.hid (HS21.out.below hb)); clear hb)
                    | ((with_reducible refine kha.mono ?_); rintro e w21 ⟨rfl, hb⟩; (have H21 := Lib.hid (H20.out.keep hb)); (have HS21 := Lib.hid (HS20.out.below hb)); clear hb))
                  go_roundw
                  case rel => exact ⟨k + 1, by go_num, hk4, H22.out, HS22.out⟩
                  case measure => simp [intOf]; omega
              · have hD : hasD T2 (k : Int) = (hasD La (k : Int) && true) := by rw [HDD.out, decide_eq_false (fun h => hk2 h.2)]; rfl
                cases hz : hasD La (k : Int) with
                | true =>
                  rw [hz] at khb hD
                  rw [hD] at kha
                  clear hz hD
                  go_wp2_with (go_at_call 41; first
                    | ((with_reducible refine (khb _ H21.out.tab H21.out.two.b).mono ?_); rintro e w22 ⟨rfl, hb⟩; (have H22 := Lib.hid (H21.out.keep hb)); (have HS22 := Lib.hid (HS21.out.below hb)); clear hb)
                    | ((with_reducible refine kha.mono ?_); rintro e w21 ⟨rfl, hb⟩; (have H21 := Lib.hid (H20.out.keep hb)); (have HS21 := Lib.hid (HS20.out.below hb)); clear hb))
                  go_roundw
                  case rel => exact ⟨k + 1, by go_num, hk4, H22.out, HS22.out⟩
                  case measure => simp [intOf]; omega
                | false =>
                  rw [hz] at khb hD
                  rw [hD] at kha
                  clear hz hD
                  go_wp2_with (go_at_call 41; first
                    | ((with_reducible refine (khb _ H21.out.tab H21.out.two.b).mono ?_); rintro e w22 ⟨rfl, hb⟩; (have H22 := Lib.hid (H21.out.keep hb)); (have HS22 := Lib.hid (HS21.out.below hb)); clear hb)
                    | ((with_reducible refine kha.mono ?_); rintro e w21 ⟨rfl, hb⟩; (have H21 := Lib.hid (H20.out.keep hb)); (have HS21 := Lib.hid (HS20.out.below hb)); clear hb))
                  go_roundw
                  case rel => exact ⟨k + 1, by go_num, hk4, H22.out, HS22.out⟩
                  case measure => simp [intOf]; omega
            · have hD : hasD T2 (k : Int) = (hasD La (k : Int) && true) := by rw [HDD.out, decide_eq_false (fun h => hk1 h.1)]; rfl
              cases hz : hasD La (k : Int) with
              | true =>
                rw [hz] at khb hD
                rw [hD] at kha
                clear hz hD
                go_wp2_with (go_at_call 41; first
                  | ((with_reducible refine (khb _ H21.out.tab H21.out.two.b).mono ?_); rintro e w22 ⟨rfl, hb⟩; (have H22 := Lib.hid (H21.out.keep hb)); (have HS22 := Lib.hid (HS21.out.below hb)); clear hb)
                  | ((with_reducible refine kha.mono ?_); rintro e w21 ⟨rfl, hb⟩; (have H21 := Lib.hid (H20.out.keep hb)); (have HS21 := Lib.hid (HS20.out.below hb)); clear hb))
                go_roundw
                case rel => exact ⟨k + 1, by go_num, hk4, H22.out, HS22.out⟩
                case measure => simp [intOf]; omega
              | false =>
                rw [hz] at khb hD
                rw [hD] at kha
                clear hz hD
                go_wp2_with (go_at_call 41; first
                  | ((with_reducible refine (khb _ H21.out.tab H21.out.two.b).mono ?_); rintro e w22 ⟨rfl, hb⟩; (have H22 := Lib.hid (H21.out.keep hb)); (have HS22 := Lib.hid (HS21.out.below hb)); clear hb)
                  | ((with_reducible refine kha.mono ?_); rintro e w21 ⟨rfl, hb⟩; (have H21 := Lib.hid (H20.out.keep hb)); (have HS21 := Lib.hid (HS20.out.below hb)); clear hb))
                go_roundw
                case rel => exact ⟨k + 1, by go_num, hk4, H22.out, HS22.out⟩
                case measure => simp [intOf]; omega
          · have hk4i : ¬ (k : Int) < 470 := by omega
            have hmm : (m2 == m1 - (s.t - s.f)) = true := by rw [beq_iff_eq]; exact HM3.out
            have hKd := Lib.hid (FK.mk (w := w) (ps := w11.heap.size) (s := s) HS20.out H20.out.bel)
            have kz := psize_is ba v16 T2 w20.drew H20.out.drew.two.a HFW2.out
            rw [HM2.out] at kz
            have hz := HZ2.out
            by_cases hst : s.f < s.t
            · rw [decide_eq_true hst] at hz
              subst hz
              go_wp2_with fail
              refine wp_region_held_drew (S := (FK w w11.heap.size s)) (by kernel_rfl) hKd.out.drew (fun hHeld => ?_)
              refine wpAnyH_take (i := 0) (oi := ?ow11o) (v := ?ow11v) ?ow11h (by kernel_rfl) (by kernel_rfl) (by kernel_rfl) ?ow11q ?ow11y hHeld ?ow11r
              case ow11h => (simp only [List.getElem?_toArray, List.getElem?_cons_zero]; rfl)
              case ow11q => exact fun _ _ _ h => h
              case ow11y => (refine Or.inl ⟨by first | kernel_rfl | rfl, ?_⟩; intro w hSw; (try dsimp only at hSw); obtain ⟨⟨x0, x1⟩, -⟩ := hSw; go_simp <;> (try with_reducible rfl))
              try simp only [Act.put, List.setIfInBounds_toArray, List.set_cons_zero, List.set_cons_succ]
              refine wpAnyH_take (i := 1) (oi := ?ow12o) (v := ?ow12v) ?ow12h (by kernel_rfl) (by kernel_rfl) (by kernel_rfl) ?ow12q ?ow12y hHeld ?ow12r
              case ow12h => (simp only [List.getElem?_toArray, List.getElem?_cons_succ, List.getElem?_cons_zero]; rfl)
              case ow12q => exact fun _ _ _ h => h
              case ow12y => (refine Or.inl ⟨by first | kernel_rfl | rfl, ?_⟩; intro w hSw; (try dsimp only at hSw); obtain ⟨⟨x0, x1⟩, -⟩ := hSw; go_simp <;> (try with_reducible rfl))
              try simp only [Act.put, List.setIfInBounds_toArray, List.set_cons_zero, List.set_cons_succ]
              refine wpAnyH_take (i := 2) (oi := ?ow13o) (v := ?ow13v) ?ow13h (by kernel_rfl) (by kernel_rfl) (by kernel_rfl) ?ow13q ?ow13y hHeld ?ow13r
              case ow13h => (simp only [List.getElem?_toArray, List.getElem?_cons_succ, List.getElem?_cons_zero]; rfl)
              case ow13q => exact fun _ _ _ h => h
              case ow13y => (refine Or.inl ⟨by first | kernel_rfl | rfl, ?_⟩; intro w hSw; (try dsimp only at hSw); obtain ⟨⟨x0, x1⟩, -⟩ := hSw; go_simp <;> (try with_reducible rfl))
              try simp only [Act.put, List.setIfInBounds_toArray, List.set_cons_zero, List.set_cons_succ]
              refine wpAnyH_take (i := 3) (oi := ?ow14o) (v := ?ow14v) ?ow14h (by kernel_rfl) (by kernel_rfl) (by kernel_rfl) ?ow14q ?ow14y hHeld ?ow14r
              case ow14h => (simp only [List.getElem?_toArray, List.getElem?_cons_succ, List.getElem?_cons_zero]; rfl)
              case ow14q => exact fun _ _ _ h => h
              case ow14y => (refine Or.inl ⟨by first | kernel_rfl | rfl, ?_⟩; intro w hSw; (try dsimp only at hSw); obtain ⟨⟨x0, x1⟩, -⟩ := hSw; go_simp <;> (try with_reducible rfl))
              try simp only [Act.put, List.setIfInBounds_toArray, List.set_cons_zero, List.set_cons_succ]
              refine wpAnyH_take (i := 4) (oi := ?ow15o) (v := ?ow15v) ?ow15h (by kernel_rfl) (by kernel_rfl) (by kernel_rfl) ?ow15q ?ow15y hHeld ?ow15r
              case ow15h => (simp only [List.getElem?_toArray, List.getElem?_cons_succ, List.getElem?_cons_zero]; rfl)
              case ow15q => exact fun _ _ _ h => h
              case ow15y => (refine Or.inl ⟨by first | kernel_rfl | rfl, ?_⟩; intro w hSw; (try dsimp only at hSw); obtain ⟨⟨x0, x1⟩, -⟩ := hSw; go_simp <;> (try with_reducible rfl))
              try simp only [Act.put, List.setIfInBounds_toArray, List.set_cons_zero, List.set_cons_succ]
              refine wpAnyH_take (i := 5) (oi := ?ow16o) (v := ?ow16v) ?ow16h (by kernel_rfl) (by kernel_rfl) (by kernel_rfl) ?ow16q ?ow16y hHeld ?ow16r
              case ow16h => (simp only [List.getElem?_toArray, List.getElem?_cons_succ, List.getElem?_cons_zero]; rfl)
              case ow16q => exact fun _ _ _ h => h
              case ow16y => (refine Or.inl ⟨by first | kernel_rfl | rfl, ?_⟩; intro w hSw; (try dsimp only at hSw); obtain ⟨⟨x0, x1⟩, -⟩ := hSw; go_simp <;> (try with_reducible rfl))
              try simp only [Act.put, List.setIfInBounds_toArray, List.set_cons_zero, List.set_cons_succ]
              refine wpAnyH_take (i := 6) (oi := ?ow17o) (v := ?ow17v) ?ow17h (by kernel_rfl) (by kernel_rfl) (by kernel_rfl) ?ow17q ?ow17y hHeld ?ow17r
              case ow17h => (simp only [List.getElem?_toArray, List.getElem?_cons_succ, List.getElem?_cons_zero]; rfl)
              case ow17q => exact fun _ _ _ h => h
              case ow17y => (refine Or.inl ⟨by first | kernel_rfl | rfl, ?_⟩; intro w hSw; (try dsimp only at hSw); obtain ⟨⟨x0, x1⟩, -⟩ := hSw; go_simp <;> (try with_reducible rfl))
              try simp only [Act.put, List.setIfInBounds_toArray, List.set_cons_zero, List.set_cons_succ]
              refine wpAnyH_take (i := 7) (oi := ?ow18o) (v := ?ow18v) ?ow18h (by kernel_rfl) (by kernel_rfl) (by kernel_rfl) ?ow18q ?ow18y hHeld ?ow18r
              case ow18h => (simp only [List.getElem?_toArray, List.getElem?_cons_succ, List.getElem?_cons_zero]; rfl)
              case ow18q => exact fun _ _ _ h => h
              case ow18y => (refine Or.inl ⟨by first | kernel_rfl | rfl, ?_⟩; intro w hSw; (try dsimp only at hSw); obtain ⟨⟨x0, x1⟩, -⟩ := hSw; go_simp <;> (try with_reducible rfl))
              try simp only [Act.put, List.setIfInBounds_toArray, List.set_cons_zero, List.set_cons_succ]
              refine wpAnyH_take (i := 8) (oi := ?ow19o) (v := ?ow19v) ?ow19h (by kernel_rfl) (by kernel_rfl) (by kernel_rfl) ?ow19q ?ow19y hHeld ?ow19r
              case ow19h => (simp only [List.getElem?_toArray, List.getElem?_cons_succ, List.getElem?_cons_zero]; rfl)
              case ow19q => exact fun _ _ _ h => h
              case ow19y => (refine Or.inl ⟨by first | kernel_rfl | rfl, ?_⟩; intro w hSw; (try dsimp only at hSw); obtain ⟨⟨x0, x1⟩, -⟩ := hSw; go_simp <;> (try with_reducible rfl))
              try simp only [Act.put, List.setIfInBounds_toArray, List.set_cons_zero, List.set_cons_succ]
              refine wpAnyH_take (i := 9) (oi := ?ow110o) (v := ?ow110v) ?ow110h (by kernel_rfl) (by kernel_rfl) (by kernel_rfl) ?ow110q ?ow110y hHeld ?ow110r
              case ow110h => (simp only [List.getElem?_toArray, List.getElem?_cons_succ, List.getElem?_cons_zero]; rfl)
              case ow110q => exact fun _ _ _ h => h
              case ow110y => (refine Or.inl ⟨by first | kernel_rfl | rfl, ?_⟩; intro w hSw; (try dsimp only at hSw); obtain ⟨⟨x0, x1⟩, -⟩ := hSw; go_simp <;> (try with_reducible rfl))
              try simp only [Act.put, List.setIfInBounds_toArray, List.set_cons_zero, List.set_cons_succ]
              refine wpAnyH_take (i := 10) (oi := ?ow111o) (v := ?ow111v) ?ow111h (by kernel_rfl) (by kernel_rfl) (by kernel_rfl) ?ow111q ?ow111y hHeld ?ow111r
              case ow111h => (simp only [List.getElem?_toArray, List.getElem?_cons_succ, List.getElem?_cons_zero]; rfl)
              case ow111q => exact fun _ _ _ h => h
              case ow111y => (refine Or.inl ⟨by first | kernel_rfl | rfl, ?_⟩; intro w hSw; (try dsimp only at hSw); obtain ⟨⟨x0, x1⟩, -⟩ := hSw; go_simp <;> (try with_reducible rfl))
              try simp only [Act.put, List.setIfInBounds_toArray, List.set_cons_zero, List.set_cons_succ]
              refine wpAnyH_take (i := 11) (oi := ?ow112o) (v := ?ow112v) ?ow112h (by kernel_rfl) (by kernel_rfl) (by kernel_rfl) ?ow112q ?ow112y hHeld ?ow112r
              case ow112h => (simp only [List.getElem?_toArray, List.getElem?_cons_succ, List.getElem?_cons_zero]; rfl)
              case ow112q => exact fun _ _ _ h => h
              case ow112y => (refine Or.inl ⟨by first | kernel_rfl | rfl, ?_⟩; intro w hSw; (try dsimp only at hSw); obtain ⟨⟨x0, x1⟩, -⟩ := hSw; go_simp <;> (try with_reducible rfl))
              try simp only [Act.put, List.setIfInBounds_toArray, List.set_cons_zero, List.set_cons_succ]
              refine wpAnyH_take (i := 12) (oi := ?ow113o) (v := ?ow113v) ?ow113h (by kernel_rfl) (by kernel_rfl) (by kernel_rfl) ?ow113q ?ow113y hHeld ?ow113r
              case ow113h => (simp only [List.getElem?_toArray, List.getElem?_cons_succ, List.getElem?_cons_zero]; rfl)
              case ow113q => exact fun _ _ _ h => h
              case ow113y => (refine Or.inl ⟨by first | kernel_rfl | rfl, ?_⟩; intro w hSw; (try dsimp only at hSw); obtain ⟨⟨x0, x1⟩, -⟩ := hSw; go_simp <;> (try with_reducible rfl))
              try simp only [Act.put, List.setIfInBounds_toArray, List.set_cons_zero, List.set_cons_succ]
              refine wpAnyH_take (i := 13) (oi := ?ow114o) (v := ?ow114v) ?ow114h (by kernel_rfl) (by kernel_rfl) (by kernel_rfl) ?ow114q ?ow114y hHeld ?ow114r
              case ow114h => (simp only [List.getElem?_toArray, List.getElem?_cons_succ, List.getElem?_cons_zero]; rfl)
              case ow114q => exact fun _ _ _ h => h
              case ow114y => (refine Or.inl ⟨by first | kernel_rfl | rfl, ?_⟩; intro w hSw; (try dsimp only at hSw); obtain ⟨⟨x0, x1⟩, -⟩ := hSw; go_simp <;> (try with_reducible rfl))
              try simp only [Act.put, List.setIfInBounds_toArray, List.set_cons_zero, List.set_cons_succ]
              refine wpAnyH_take (i := 14) (oi := ?ow115o) (v := ?ow115v) ?ow115h (by kernel_rfl) (by kernel_rfl) (by kernel_rfl) ?ow115q ?ow115y hHeld ?ow115r
              case ow115h => (simp only [List.getElem?_toArray, List.getElem?_cons_succ, List.getElem?_cons_zero]; rfl)
              case ow115q => exact fun _ _ _ h => h
              case ow115y => (refine Or.inl ⟨by first | kernel_rfl | rfl, ?_⟩; intro w hSw; (try dsimp only at hSw); obtain ⟨⟨x0, x1⟩, -⟩ := hSw; go_simp <;> (try with_reducible rfl))
              try simp only [Act.put, List.setIfInBounds_toArray, List.set_cons_zero, List.set_cons_succ]
              refine wpAnyH_take (i := 16) (oi := ?ow116o) (v := ?ow116v) ?ow116h (by kernel_rfl) (by kernel_rfl) (by kernel_rfl) ?ow116q ?ow116y hHeld ?ow116r
              case ow116h => (simp only [List.getElem?_toArray, List.getElem?_cons_succ, List.getElem?_cons_zero]; rfl)
              case ow116q => exact fun _ _ _ h => h
              case ow116y => (refine Or.inl ⟨by first | kernel_rfl | rfl, ?_⟩; intro w hSw; (try dsimp only at hSw); obtain ⟨⟨x0, x1⟩, -⟩ := hSw; go_simp <;> (try with_reducible rfl))
              try simp only [Act.put, List.setIfInBounds_toArray, List.set_cons_zero, List.set_cons_succ]
              refine wpAnyH_take (i := 17) (oi := ?ow117o) (v := ?ow117v) ?ow117h (by kernel_rfl) (by kernel_rfl) (by kernel_rfl) ?ow117q ?ow117y hHeld ?ow117r
              case ow117h => (simp only [List.getElem?_toArray, List.getElem?_cons_succ, List.getElem?_cons_zero]; rfl)
              case ow117q => exact fun _ _ _ h => h
              case ow117y => (refine Or.inl ⟨by first | kernel_rfl | rfl, ?_⟩; intro w hSw; (try dsimp only at hSw); obtain ⟨⟨x0, x1⟩, -⟩ := hSw; go_simp <;> (try with_reducible rfl))
              try simp only [Act.put, List.setIfInBounds_toArray, List.set_cons_zero, List.set_cons_succ]
              refine wpAnyH_take (i := 18) (oi := ?ow118o) (v := ?ow118v) ?ow118h (by kernel_rfl) (by kernel_rfl) (by kernel_rfl) ?ow118q ?ow118y hHeld ?ow118r
              case ow118h => (simp only [List.getElem?_toArray, List.getElem?_cons_succ, List.getElem?_cons_zero]; rfl)
              case ow118q => exact fun _ _ _ h => h
              case ow118y => (refine Or.inl ⟨by first | kernel_rfl | rfl, ?_⟩; intro w hSw; (try dsimp only at hSw); obtain ⟨⟨x0, x1⟩, -⟩ := hSw; go_simp <;> (try with_reducible rfl))
              try simp only [Act.put, List.setIfInBounds_toArray, List.set_cons_zero, List.set_cons_succ]
              refine wpAnyH_take (i := 19) (oi := ?ow119o) (v := ?ow119v) ?ow119h (by kernel_rfl) (by kernel_rfl) (by kernel_rfl) ?ow119q ?ow119y hHeld ?ow119r
              case ow119h => (simp only [List.getElem?_toArray, List.getElem?_cons_succ, List.getElem?_cons_zero]; rfl)
              case ow119q => exact fun _ _ _ h => h
              case ow119y => (refine Or.inl ⟨by first | kernel_rfl | rfl, ?_⟩; intro w hSw; (try dsimp only at hSw); obtain ⟨⟨x0, x1⟩, -⟩ := hSw; go_simp <;> (try with_reducible rfl))
              try simp only [Act.put, List.setIfInBounds_toArray, List.set_cons_zero, List.set_cons_succ]
              refine wpAnyH_take (i := 20) (oi := ?ow120o) (v := ?ow120v) ?ow120h (by kernel_rfl) (by kernel_rfl) (by kernel_rfl) ?ow120q ?ow120y hHeld ?ow120r
              case ow120h => (simp only [List.getElem?_toArray, List.getElem?_cons_succ, List.getElem?_cons_zero]; rfl)
              case ow120q => exact fun _ _ _ h => h
              case ow120y => (refine Or.inl ⟨by first | kernel_rfl | rfl, ?_⟩; intro w hSw; (try dsimp only at hSw); obtain ⟨⟨x0, x1⟩, -⟩ := hSw; go_simp <;> (try with_reducible rfl))
              try simp only [Act.put, List.setIfInBounds_toArray, List.set_cons_zero, List.set_cons_succ]
              refine wpAnyH_take (i := 21) (oi := ?ow121o) (v := ?ow121v) ?ow121h (by kernel_rfl) (by kernel_rfl) (by kernel_rfl) ?ow121q ?ow121y hHeld ?ow121r
              case ow121h => (simp only [List.getElem?_toArray, List.getElem?_cons_succ, List.getElem?_cons_zero]; rfl)
              case ow121q => exact fun _ _ _ h => h
              case ow121y => (refine Or.inl ⟨by first | kernel_rfl | rfl, ?_⟩; intro w hSw; (try dsimp only at hSw); obtain ⟨⟨x0, x1⟩, -⟩ := hSw; go_simp <;> (try with_reducible rfl))
              try simp only [Act.put, List.setIfInBounds_toArray, List.set_cons_zero, List.set_cons_succ]
              refine wpAnyH_take (i := 22) (oi := ?ow122o) (v := ?ow122v) ?ow122h (by kernel_rfl) (by kernel_rfl) (by kernel_rfl) ?ow122q ?ow122y hHeld ?ow122r
              case ow122h => (simp only [List.getElem?_toArray, List.getElem?_cons_succ, List.getElem?_cons_zero]; rfl)
              case ow122q => exact fun _ _ _ h => h
              case ow122y => (refine Or.inl ⟨by first | kernel_rfl | rfl, ?_⟩; intro w hSw; (try dsimp only at hSw); obtain ⟨⟨x0, x1⟩, -⟩ := hSw; go_simp <;> (try with_reducible rfl))
              try simp only [Act.put, List.setIfInBounds_toArray, List.set_cons_zero, List.set_cons_succ]
              refine wpAnyH_ready (rs := [15]) (by kernel_rfl) (by simp) ?_
              refine (AllReadyH.cons rfl (fun K hK => ?_) AllReadyH.nil)
              go_simp
              ((with_reducible refine kz.mono ?_); rintro e w30 ⟨rfl, hb30⟩; have H30 := Lib.hid (H20.out.drew.keep hb30))
              refine hK.out _ _ (hHeld.keep hb30) (fun hHeld => ?_)
              clear hK K
              try simp only [Act.put, List.setIfInBounds_toArray, List.set_cons_zero, List.set_cons_succ]
              refine wpAnyH_take (i := 23) (oi := ?ow123o) (v := ?ow123v) ?ow123h (by kernel_rfl) (by kernel_rfl) (by kernel_rfl) ?ow123q ?ow123y hHeld ?ow123r
              case ow123h => (simp only [List.getElem?_toArray, List.getElem?_cons_succ, List.getElem?_cons_zero]; rfl)
              case ow123q => exact fun _ _ _ h => h
              case ow123y => (refine Or.inl ⟨by first | kernel_rfl | rfl, ?_⟩; intro w hSw; (try dsimp only at hSw); obtain ⟨⟨x0, x1⟩, -⟩ := hSw; go_simp <;> (try with_reducible rfl))
              try simp only [Act.put, List.setIfInBounds_toArray, List.set_cons_zero, List.set_cons_succ]
              refine wpAnyH_take (i := 24) (oi := ?ow124o) (v := ?ow124v) ?ow124h (by kernel_rfl) (by kernel_rfl) (by kernel_rfl) ?ow124q ?ow124y hHeld ?ow124r
              case ow124h => (simp only [List.getElem?_toArray, List.getElem?_cons_succ, List.getElem?_cons_zero]; rfl)
              case ow124q => exact fun _ _ _ h => h
              case ow124y => (refine Or.inl ⟨by first | kernel_rfl | rfl, ?_⟩; intro w hSw; (try dsimp only at hSw); obtain ⟨⟨x0, x1⟩, -⟩ := hSw; go_simp <;> (try with_reducible rfl))
              try simp only [Act.put, List.setIfInBounds_toArray, List.set_cons_zero, List.set_cons_succ]
              refine wpAnyH_take (i := 25) (oi := ?ow125o) (v := ?ow125v) ?ow125h (by kernel_rfl) (by kernel_rfl) (by kernel_rfl) ?ow125q ?ow125y hHeld ?ow125r
              case ow125h => (simp only [List.getElem?_toArray, List.getElem?_cons_succ, List.getElem?_cons_zero]; rfl)
              case ow125q => exact fun _ _ _ h => h
              case ow125y => (refine Or.inl ⟨by first | kernel_rfl | rfl, ?_⟩; intro w hSw; (try dsimp only at hSw); obtain ⟨⟨x0, x1⟩, -⟩ := hSw; go_simp <;> (try with_reducible rfl))
              try simp only [Act.put, List.setIfInBounds_toArray, List.set_cons_zero, List.set_cons_succ]
              refine wpAnyH_take (i := 26) (oi := ?ow126o) (v := ?ow126v) ?ow126h (by kernel_rfl) (by kernel_rfl) (by kernel_rfl) ?ow126q ?ow126y hHeld ?ow126r
              case ow126h => (simp only [List.getElem?_toArray, List.getElem?_cons_succ, List.getElem?_cons_zero]; rfl)
              case ow126q => exact fun _ _ _ h => h
              case ow126y => (refine Or.inl ⟨by first | kernel_rfl | rfl, ?_⟩; intro w hSw; (try dsimp only at hSw); obtain ⟨⟨x0, x1⟩, -⟩ := hSw; go_simp <;> (try with_reducible rfl))
              try simp only [Act.put, List.setIfInBounds_toArray, List.set_cons_zero, List.set_cons_succ]
              refine wpAnyH_take (i := 27) (oi := ?ow127o) (v := ?ow127v) ?ow127h (by kernel_rfl) (by kernel_rfl) (by kernel_rfl) ?ow127q ?ow127y hHeld ?ow127r
              case ow127h => (simp only [List.getElem?_toArray, List.getElem?_cons_succ, List.getElem?_cons_zero]; rfl)
              case ow127q => exact fun _ _ _ h => h
              case ow127y => (refine Or.inl ⟨by first | kernel_rfl | rfl, ?_⟩; intro w hSw; (try dsimp only at hSw); obtain ⟨⟨x0, x1⟩, -⟩ := hSw; go_simp <;> (try with_reducible rfl))
              try simp only [Act.put, List.setIfInBounds_toArray, List.set_cons_zero, List.set_cons_succ]
              refine wpAnyH_ready (rs := [28]) (by kernel_rfl) (by simp) ?_
              refine (AllReadyH.cons rfl (fun K hK => ?_) AllReadyH.nil)
              go_simp
              ((have kt := take_is ba v16 T2 s w30 H30.out.two.a HA2.out.canon (by have := HF2.out.2.1; omega)); unfold Sp.v at kt; (with_reducible refine kt.mono ?_); rintro e w31 ⟨T3, ⟨v31, rfl, hset31, hmv31⟩, hok31⟩; (obtain rfl : T3 = T2 := (HA2.out.take hok31).same HA2.out (fun x => ⟨fun h => h.1, fun h => ⟨h, h.2⟩⟩)); (rw [show changed T3 T3 = false from by simp [changed]]); (have H31 := Lib.hid (H30.out.moveA HTw.out hmv31 hset31)))
              refine hK.out _ _ (FK.mk (hHeld.at_.moves hmv31 HNE.out HNV16.out) H31.out.bel) (fun hHeld => ?_)
              clear hK K
              try simp only [Act.put, List.setIfInBounds_toArray, List.set_cons_zero, List.set_cons_succ]
              refine wpAnyH_take (i := 29) (oi := ?ow128o) (v := ?ow128v) ?ow128h (by kernel_rfl) (by kernel_rfl) (by kernel_rfl) ?ow128q ?ow128y hHeld ?ow128r
              case ow128h => (simp only [List.getElem?_toArray, List.getElem?_cons_succ, List.getElem?_cons_zero]; rfl)
              case ow128q => exact fun _ _ _ h => h
              case ow128y => (refine Or.inl ⟨by first | kernel_rfl | rfl, ?_⟩; intro w hSw; (try dsimp only at hSw); obtain ⟨⟨x0, x1⟩, -⟩ := hSw; go_simp <;> (try with_reducible rfl))
              try simp only [Act.put, List.setIfInBounds_toArray, List.set_cons_zero, List.set_cons_succ]
              refine wpAnyH_take (i := 30) (oi := ?ow129o) (v := ?ow129v) ?ow129h (by kernel_rfl) (by kernel_rfl) (by kernel_rfl) ?ow129q ?ow129y hHeld ?ow129r
              case ow129h => (simp only [List.getElem?_toArray, List.getElem?_cons_succ, List.getElem?_cons_zero]; rfl)
              case ow129q => exact fun _ _ _ h => h
              case ow129y => (refine Or.inl ⟨by first | kernel_rfl | rfl, ?_⟩; intro w hSw; (try dsimp only at hSw); obtain ⟨⟨x0, x1⟩, -⟩ := hSw; go_simp <;> (try with_reducible rfl))
              try simp only [Act.put, List.setIfInBounds_toArray, List.set_cons_zero, List.set_cons_succ]
              refine wpAnyH_take (i := 31) (oi := ?ow130o) (v := ?ow130v) ?ow130h (by kernel_rfl) (by kernel_rfl) (by kernel_rfl) ?ow130q ?ow130y hHeld ?ow130r
              case ow130h => (simp only [List.getElem?_toArray, List.getElem?_cons_succ, List.getElem?_cons_zero]; rfl)
              case ow130q => exact fun _ _ _ h => h
              case ow130y => (refine Or.inl ⟨by first | kernel_rfl | rfl, ?_⟩; intro w hSw; (try dsimp only at hSw); obtain ⟨⟨x0, x1⟩, -⟩ := hSw; go_simp <;> (try with_reducible rfl))
              try simp only [Act.put, List.setIfInBounds_toArray, List.set_cons_zero, List.set_cons_succ]
              refine wpAnyH_done (by kernel_rfl) ?_ _
              have hbel := hHeld.bel
              go_wp2
              go_ret
              first | exact ⟨rfl, hbel⟩ | exact ⟨by rfl, hbel⟩
            · rw [decide_eq_false hst] at hz
              subst hz
              have hfe : s.t = s.f := by have := Sp.is_iff.1 HIS.out; omega
              have hm12 : m2 = m1 := by have := HM3.out; omega
              subst hm12
              have hwm1 : IntKind.i64.wrap m2 = m2 := by rw [hfe] at hwm; simpa using hwm
              have hw0 : IntKind.i64.wrap 0 = 0 := by rfl
              clear hwm hmm hwd hst
              go_wp2_with fail
              refine wp_region_held_drew (S := (FK w w11.heap.size s)) (by kernel_rfl) hKd.out.drew (fun hHeld => ?_)
              refine wpAnyH_take (i := 0) (oi := ?ow21o) (v := ?ow21v) ?ow21h (by kernel_rfl) (by kernel_rfl) (by kernel_rfl) ?ow21q ?ow21y hHeld ?ow21r
              case ow21h => (simp only [List.getElem?_toArray, List.getElem?_cons_zero]; rfl)
              case ow21q => exact fun _ _ _ h => h
              case ow21y => (refine Or.inl ⟨by first | kernel_rfl | rfl, ?_⟩; intro w hSw; (try dsimp only at hSw); obtain ⟨⟨x0, x1⟩, -⟩ := hSw; go_simp <;> (try with_reducible rfl))
              try simp only [Act.put, List.setIfInBounds_toArray, List.set_cons_zero, List.set_cons_succ]
              refine wpAnyH_take (i := 1) (oi := ?ow22o) (v := ?ow22v) ?ow22h (by kernel_rfl) (by kernel_rfl) (by kernel_rfl) ?ow22q ?ow22y hHeld ?ow22r
              case ow22h => (simp only [List.getElem?_toArray, List.getElem?_cons_succ, List.getElem?_cons_zero]; rfl)
              case ow22q => exact fun _ _ _ h => h
              case ow22y => (refine Or.inl ⟨by first | kernel_rfl | rfl, ?_⟩; intro w hSw; (try dsimp only at hSw); obtain ⟨⟨x0, x1⟩, -⟩ := hSw; go_simp <;> (try with_reducible rfl))
              try simp only [Act.put, List.setIfInBounds_toArray, List.set_cons_zero, List.set_cons_succ]
              refine wpAnyH_take (i := 2) (oi := ?ow23o) (v := ?ow23v) ?ow23h (by kernel_rfl) (by kernel_rfl) (by kernel_rfl) ?ow23q ?ow23y hHeld ?ow23r
              case ow23h => (simp only [List.getElem?_toArray, List.getElem?_cons_succ, List.getElem?_cons_zero]; rfl)
              case ow23q => exact fun _ _ _ h => h
              case ow23y => (refine Or.inl ⟨by first | kernel_rfl | rfl, ?_⟩; intro w hSw; (try dsimp only at hSw); obtain ⟨⟨x0, x1⟩, -⟩ := hSw; go_simp <;> (try with_reducible rfl))
              try simp only [Act.put, List.setIfInBounds_toArray, List.set_cons_zero, List.set_cons_succ]
              refine wpAnyH_take (i := 3) (oi := ?ow24o) (v := ?ow24v) ?ow24h (by kernel_rfl) (by kernel_rfl) (by kernel_rfl) ?ow24q ?ow24y hHeld ?ow24r
              case ow24h => (simp only [List.getElem?_toArray, List.getElem?_cons_succ, List.getElem?_cons_zero]; rfl)
              case ow24q => exact fun _ _ _ h => h
              case ow24y => (refine Or.inl ⟨by first | kernel_rfl | rfl, ?_⟩; intro w hSw; (try dsimp only at hSw); obtain ⟨⟨x0, x1⟩, -⟩ := hSw; go_simp <;> (try with_reducible rfl))
              try simp only [Act.put, List.setIfInBounds_toArray, List.set_cons_zero, List.set_cons_succ]
              refine wpAnyH_take (i := 4) (oi := ?ow25o) (v := ?ow25v) ?ow25h (by kernel_rfl) (by kernel_rfl) (by kernel_rfl) ?ow25q ?ow25y hHeld ?ow25r
              case ow25h => (simp only [List.getElem?_toArray, List.getElem?_cons_succ, List.getElem?_cons_zero]; rfl)
              case ow25q => exact fun _ _ _ h => h
              case ow25y => (refine Or.inl ⟨by first | kernel_rfl | rfl, ?_⟩; intro w hSw; (try dsimp only at hSw); obtain ⟨⟨x0, x1⟩, -⟩ := hSw; go_simp <;> (try with_reducible rfl))
              try simp only [Act.put, List.setIfInBounds_toArray, List.set_cons_zero, List.set_cons_succ]
              refine wpAnyH_take (i := 5) (oi := ?ow26o) (v := ?ow26v) ?ow26h (by kernel_rfl) (by kernel_rfl) (by kernel_rfl) ?ow26q ?ow26y hHeld ?ow26r
              case ow26h => (simp only [List.getElem?_toArray, List.getElem?_cons_succ, List.getElem?_cons_zero]; rfl)
              case ow26q => exact fun _ _ _ h => h
              case ow26y => (refine Or.inl ⟨by first | kernel_rfl | rfl, ?_⟩; intro w hSw; (try dsimp only at hSw); obtain ⟨⟨x0, x1⟩, -⟩ := hSw; go_simp <;> (try with_reducible rfl))
              try simp only [Act.put, List.setIfInBounds_toArray, List.set_cons_zero, List.set_cons_succ]
              refine wpAnyH_take (i := 6) (oi := ?ow27o) (v := ?ow27v) ?ow27h (by kernel_rfl) (by kernel_rfl) (by kernel_rfl) ?ow27q ?ow27y hHeld ?ow27r
              case ow27h => (simp only [List.getElem?_toArray, List.getElem?_cons_succ, List.getElem?_cons_zero]; rfl)
              case ow27q => exact fun _ _ _ h => h
              case ow27y => (refine Or.inl ⟨by first | kernel_rfl | rfl, ?_⟩; intro w hSw; (try dsimp only at hSw); obtain ⟨⟨x0, x1⟩, -⟩ := hSw; go_simp <;> (try with_reducible rfl))
              try simp only [Act.put, List.setIfInBounds_toArray, List.set_cons_zero, List.set_cons_succ]
              refine wpAnyH_take (i := 7) (oi := ?ow28o) (v := ?ow28v) ?ow28h (by kernel_rfl) (by kernel_rfl) (by kernel_rfl) ?ow28q ?ow28y hHeld ?ow28r
              case ow28h => (simp only [List.getElem?_toArray, List.getElem?_cons_succ, List.getElem?_cons_zero]; rfl)
              case ow28q => exact fun _ _ _ h => h
              case ow28y => (refine Or.inl ⟨by first | kernel_rfl | rfl, ?_⟩; intro w hSw; (try dsimp only at hSw); obtain ⟨⟨x0, x1⟩, -⟩ := hSw; go_simp <;> (try with_reducible rfl))
              try simp only [Act.put, List.setIfInBounds_toArray, List.set_cons_zero, List.set_cons_succ]
              refine wpAnyH_take (i := 8) (oi := ?ow29o) (v := ?ow29v) ?ow29h (by kernel_rfl) (by kernel_rfl) (by kernel_rfl) ?ow29q ?ow29y hHeld ?ow29r
              case ow29h => (simp only [List.getElem?_toArray, List.getElem?_cons_succ, List.getElem?_cons_zero]; rfl)
              case ow29q => exact fun _ _ _ h => h
              case ow29y => (refine Or.inl ⟨by first | kernel_rfl | rfl, ?_⟩; intro w hSw; (try dsimp only at hSw); obtain ⟨⟨x0, x1⟩, -⟩ := hSw; go_simp <;> (try with_reducible rfl))
              try simp only [Act.put, List.setIfInBounds_toArray, List.set_cons_zero, List.set_cons_succ]
              refine wpAnyH_take (i := 9) (oi := ?ow210o) (v := ?ow210v) ?ow210h (by kernel_rfl) (by kernel_rfl) (by kernel_rfl) ?ow210q ?ow210y hHeld ?ow210r
              case ow210h => (simp only [List.getElem?_toArray, List.getElem?_cons_succ, List.getElem?_cons_zero]; rfl)
              case ow210q => exact fun _ _ _ h => h
              case ow210y => (refine Or.inl ⟨by first | kernel_rfl | rfl, ?_⟩; intro w hSw; (try dsimp only at hSw); obtain ⟨⟨x0, x1⟩, -⟩ := hSw; go_simp <;> (try with_reducible rfl))
              try simp only [Act.put, List.setIfInBounds_toArray, List.set_cons_zero, List.set_cons_succ]
              refine wpAnyH_take (i := 10) (oi := ?ow211o) (v := ?ow211v) ?ow211h (by kernel_rfl) (by kernel_rfl) (by kernel_rfl) ?ow211q ?ow211y hHeld ?ow211r
              case ow211h => (simp only [List.getElem?_toArray, List.getElem?_cons_succ, List.getElem?_cons_zero]; rfl)
              case ow211q => exact fun _ _ _ h => h
              case ow211y => (refine Or.inl ⟨by first | kernel_rfl | rfl, ?_⟩; intro w hSw; (try dsimp only at hSw); obtain ⟨⟨x0, x1⟩, -⟩ := hSw; go_simp <;> (try with_reducible rfl))
              try simp only [Act.put, List.setIfInBounds_toArray, List.set_cons_zero, List.set_cons_succ]
              refine wpAnyH_take (i := 11) (oi := ?ow212o) (v := ?ow212v) ?ow212h (by kernel_rfl) (by kernel_rfl) (by kernel_rfl) ?ow212q ?ow212y hHeld ?ow212r
              case ow212h => (simp only [List.getElem?_toArray, List.getElem?_cons_succ, List.getElem?_cons_zero]; rfl)
              case ow212q => exact fun _ _ _ h => h
              case ow212y => (refine Or.inl ⟨by first | kernel_rfl | rfl, ?_⟩; intro w hSw; (try dsimp only at hSw); obtain ⟨⟨x0, x1⟩, -⟩ := hSw; go_simp <;> (try with_reducible rfl))
              try simp only [Act.put, List.setIfInBounds_toArray, List.set_cons_zero, List.set_cons_succ]
              refine wpAnyH_take (i := 12) (oi := ?ow213o) (v := ?ow213v) ?ow213h (by kernel_rfl) (by kernel_rfl) (by kernel_rfl) ?ow213q ?ow213y hHeld ?ow213r
              case ow213h => (simp only [List.getElem?_toArray, List.getElem?_cons_succ, List.getElem?_cons_zero]; rfl)
              case ow213q => exact fun _ _ _ h => h
              case ow213y => (refine Or.inl ⟨by first | kernel_rfl | rfl, ?_⟩; intro w hSw; (try dsimp only at hSw); obtain ⟨⟨x0, x1⟩, -⟩ := hSw; go_simp <;> (try with_reducible rfl))
              try simp only [Act.put, List.setIfInBounds_toArray, List.set_cons_zero, List.set_cons_succ]
              refine wpAnyH_take (i := 13) (oi := ?ow214o) (v := ?ow214v) ?ow214h (by kernel_rfl) (by kernel_rfl) (by kernel_rfl) ?ow214q ?ow214y hHeld ?ow214r
              case ow214h => (simp only [List.getElem?_toArray, List.getElem?_cons_succ, List.getElem?_cons_zero]; rfl)
              case ow214q => exact fun _ _ _ h => h
              case ow214y => (refine Or.inl ⟨by first | kernel_rfl | rfl, ?_⟩; intro w hSw; (try dsimp only at hSw); obtain ⟨⟨x0, x1⟩, -⟩ := hSw; go_simp <;> (try with_reducible rfl))
              try simp only [Act.put, List.setIfInBounds_toArray, List.set_cons_zero, List.set_cons_succ]
              refine wpAnyH_take (i := 14) (oi := ?ow215o) (v := ?ow215v) ?ow215h (by kernel_rfl) (by kernel_rfl) (by kernel_rfl) ?ow215q ?ow215y hHeld ?ow215r
              case ow215h => (simp only [List.getElem?_toArray, List.getElem?_cons_succ, List.getElem?_cons_zero]; rfl)
              case ow215q => exact fun _ _ _ h => h
              case ow215y => (refine Or.inl ⟨by first | kernel_rfl | rfl, ?_⟩; intro w hSw; (try dsimp only at hSw); obtain ⟨⟨x0, x1⟩, -⟩ := hSw; go_simp <;> (try with_reducible rfl))
              try simp only [Act.put, List.setIfInBounds_toArray, List.set_cons_zero, List.set_cons_succ]
              refine wpAnyH_take (i := 16) (oi := ?ow216o) (v := ?ow216v) ?ow216h (by kernel_rfl) (by kernel_rfl) (by kernel_rfl) ?ow216q ?ow216y hHeld ?ow216r
              case ow216h => (simp only [List.getElem?_toArray, List.getElem?_cons_succ, List.getElem?_cons_zero]; rfl)
              case ow216q => exact fun _ _ _ h => h
              case ow216y => (refine Or.inl ⟨by first | kernel_rfl | rfl, ?_⟩; intro w hSw; (try dsimp only at hSw); obtain ⟨⟨x0, x1⟩, -⟩ := hSw; go_simp <;> (try with_reducible rfl))
              try simp only [Act.put, List.setIfInBounds_toArray, List.set_cons_zero, List.set_cons_succ]
              refine wpAnyH_take (i := 17) (oi := ?ow217o) (v := ?ow217v) ?ow217h (by kernel_rfl) (by kernel_rfl) (by kernel_rfl) ?ow217q ?ow217y hHeld ?ow217r
              case ow217h => (simp only [List.getElem?_toArray, List.getElem?_cons_succ, List.getElem?_cons_zero]; rfl)
              case ow217q => exact fun _ _ _ h => h
              case ow217y => (refine Or.inl ⟨by first | kernel_rfl | rfl, ?_⟩; intro w hSw; (try dsimp only at hSw); obtain ⟨⟨x0, x1⟩, -⟩ := hSw; go_simp <;> (try with_reducible rfl))
              try simp only [Act.put, List.setIfInBounds_toArray, List.set_cons_zero, List.set_cons_succ]
              refine wpAnyH_take (i := 18) (oi := ?ow218o) (v := ?ow218v) ?ow218h (by kernel_rfl) (by kernel_rfl) (by kernel_rfl) ?ow218q ?ow218y hHeld ?ow218r
              case ow218h => (simp only [List.getElem?_toArray, List.getElem?_cons_succ, List.getElem?_cons_zero]; rfl)
              case ow218q => exact fun _ _ _ h => h
              case ow218y => (refine Or.inl ⟨by first | kernel_rfl | rfl, ?_⟩; intro w hSw; (try dsimp only at hSw); obtain ⟨⟨x0, x1⟩, -⟩ := hSw; go_simp <;> (try with_reducible rfl))
              try simp only [Act.put, List.setIfInBounds_toArray, List.set_cons_zero, List.set_cons_succ]
              refine wpAnyH_take (i := 19) (oi := ?ow219o) (v := ?ow219v) ?ow219h (by kernel_rfl) (by kernel_rfl) (by kernel_rfl) ?ow219q ?ow219y hHeld ?ow219r
              case ow219h => (simp only [List.getElem?_toArray, List.getElem?_cons_succ, List.getElem?_cons_zero]; rfl)
              case ow219q => exact fun _ _ _ h => h
              case ow219y => (refine Or.inl ⟨by first | kernel_rfl | rfl, ?_⟩; intro w hSw; (try dsimp only at hSw); obtain ⟨⟨x0, x1⟩, -⟩ := hSw; go_simp <;> (try with_reducible rfl))
              try simp only [Act.put, List.setIfInBounds_toArray, List.set_cons_zero, List.set_cons_succ]
              refine wpAnyH_take (i := 20) (oi := ?ow220o) (v := ?ow220v) ?ow220h (by kernel_rfl) (by kernel_rfl) (by kernel_rfl) ?ow220q ?ow220y hHeld ?ow220r
              case ow220h => (simp only [List.getElem?_toArray, List.getElem?_cons_succ, List.getElem?_cons_zero]; rfl)
              case ow220q => exact fun _ _ _ h => h
              case ow220y => (refine Or.inl ⟨by first | kernel_rfl | rfl, ?_⟩; intro w hSw; (try dsimp only at hSw); obtain ⟨⟨x0, x1⟩, -⟩ := hSw; go_simp <;> (try with_reducible rfl))
              try simp only [Act.put, List.setIfInBounds_toArray, List.set_cons_zero, List.set_cons_succ]
              refine wpAnyH_take (i := 21) (oi := ?ow221o) (v := ?ow221v) ?ow221h (by kernel_rfl) (by kernel_rfl) (by kernel_rfl) ?ow221q ?ow221y hHeld ?ow221r
              case ow221h => (simp only [List.getElem?_toArray, List.getElem?_cons_succ, List.getElem?_cons_zero]; rfl)
              case ow221q => exact fun _ _ _ h => h
              case ow221y => (refine Or.inl ⟨by first | kernel_rfl | rfl, ?_⟩; intro w hSw; (try dsimp only at hSw); obtain ⟨⟨x0, x1⟩, -⟩ := hSw; go_simp <;> (try with_reducible rfl))
              try simp only [Act.put, List.setIfInBounds_toArray, List.set_cons_zero, List.set_cons_succ]
              refine wpAnyH_take (i := 22) (oi := ?ow222o) (v := ?ow222v) ?ow222h (by kernel_rfl) (by kernel_rfl) (by kernel_rfl) ?ow222q ?ow222y hHeld ?ow222r
              case ow222h => (simp only [List.getElem?_toArray, List.getElem?_cons_succ, List.getElem?_cons_zero]; rfl)
              case ow222q => exact fun _ _ _ h => h
              case ow222y => (refine Or.inl ⟨by first | kernel_rfl | rfl, ?_⟩; intro w hSw; (try dsimp only at hSw); obtain ⟨⟨x0, x1⟩, -⟩ := hSw; go_simp <;> (try with_reducible rfl))
              try simp only [Act.put, List.setIfInBounds_toArray, List.set_cons_zero, List.set_cons_succ]
              refine wpAnyH_ready (rs := [15]) (by kernel_rfl) (by simp) ?_
              refine (AllReadyH.cons rfl (fun K hK => ?_) AllReadyH.nil)
              go_simp
              ((with_reducible refine kz.mono ?_); rintro e w30 ⟨rfl, hb30⟩; have H30 := Lib.hid (H20.out.drew.keep hb30))
              refine hK.out _ _ (hHeld.keep hb30) (fun hHeld => ?_)
              clear hK K
              try simp only [Act.put, List.setIfInBounds_toArray, List.set_cons_zero, List.set_cons_succ]
              refine wpAnyH_take (i := 23) (oi := ?ow223o) (v := ?ow223v) ?ow223h (by kernel_rfl) (by kernel_rfl) (by kernel_rfl) ?ow223q ?ow223y hHeld ?ow223r
              case ow223h => (simp only [List.getElem?_toArray, List.getElem?_cons_succ, List.getElem?_cons_zero]; rfl)
              case ow223q => exact fun _ _ _ h => h
              case ow223y => (refine Or.inl ⟨by first | kernel_rfl | rfl, ?_⟩; intro w hSw; (try dsimp only at hSw); obtain ⟨⟨x0, x1⟩, -⟩ := hSw; go_simp <;> (try with_reducible rfl))
              try simp only [Act.put, List.setIfInBounds_toArray, List.set_cons_zero, List.set_cons_succ]
              refine wpAnyH_take (i := 24) (oi := ?ow224o) (v := ?ow224v) ?ow224h (by kernel_rfl) (by kernel_rfl) (by kernel_rfl) ?ow224q ?ow224y hHeld ?ow224r
              case ow224h => (simp only [List.getElem?_toArray, List.getElem?_cons_succ, List.getElem?_cons_zero]; rfl)
              case ow224q => exact fun _ _ _ h => h
              case ow224y => (refine Or.inl ⟨by first | kernel_rfl | rfl, ?_⟩; intro w hSw; (try dsimp only at hSw); obtain ⟨⟨x0, x1⟩, -⟩ := hSw; go_simp <;> (try with_reducible rfl))
              try simp only [Act.put, List.setIfInBounds_toArray, List.set_cons_zero, List.set_cons_succ]
              refine wpAnyH_take (i := 25) (oi := ?ow225o) (v := ?ow225v) ?ow225h (by kernel_rfl) (by kernel_rfl) (by kernel_rfl) ?ow225q ?ow225y hHeld ?ow225r
              case ow225h => (simp only [List.getElem?_toArray, List.getElem?_cons_succ, List.getElem?_cons_zero]; rfl)
              case ow225q => exact fun _ _ _ h => h
              case ow225y => (refine Or.inl ⟨by first | kernel_rfl | rfl, ?_⟩; intro w hSw; (try dsimp only at hSw); obtain ⟨⟨x0, x1⟩, -⟩ := hSw; go_simp <;> (try with_reducible rfl))
              try simp only [Act.put, List.setIfInBounds_toArray, List.set_cons_zero, List.set_cons_succ]
              refine wpAnyH_take (i := 26) (oi := ?ow226o) (v := ?ow226v) ?ow226h (by kernel_rfl) (by kernel_rfl) (by kernel_rfl) ?ow226q ?ow226y hHeld ?ow226r
              case ow226h => (simp only [List.getElem?_toArray, List.getElem?_cons_succ, List.getElem?_cons_zero]; rfl)
              case ow226q => exact fun _ _ _ h => h
              case ow226y => (refine Or.inl ⟨by first | kernel_rfl | rfl, ?_⟩; intro w hSw; (try dsimp only at hSw); obtain ⟨⟨x0, x1⟩, -⟩ := hSw; go_simp <;> (try with_reducible rfl))
              try simp only [Act.put, List.setIfInBounds_toArray, List.set_cons_zero, List.set_cons_succ]
              refine wpAnyH_take (i := 27) (oi := ?ow227o) (v := ?ow227v) ?ow227h (by kernel_rfl) (by kernel_rfl) (by kernel_rfl) ?ow227q ?ow227y hHeld ?ow227r
              case ow227h => (simp only [List.getElem?_toArray, List.getElem?_cons_succ, List.getElem?_cons_zero]; rfl)
              case ow227q => exact fun _ _ _ h => h
              case ow227y => (refine Or.inl ⟨by first | kernel_rfl | rfl, ?_⟩; intro w hSw; (try dsimp only at hSw); obtain ⟨⟨x0, x1⟩, -⟩ := hSw; go_simp <;> (try with_reducible rfl))
              try simp only [Act.put, List.setIfInBounds_toArray, List.set_cons_zero, List.set_cons_succ]
              refine wpAnyH_ready (rs := [28]) (by kernel_rfl) (by simp) ?_
              refine (AllReadyH.cons rfl (fun K hK => ?_) AllReadyH.nil)
              go_simp
              ((have kt := take_is ba v16 T2 s w30 H30.out.two.a HA2.out.canon (by have := HF2.out.2.1; omega)); unfold Sp.v at kt; rw [hfe] at kt; (with_reducible refine kt.mono ?_); rintro e w31 ⟨T3, ⟨v31, rfl, hset31, hmv31⟩, hok31⟩; (obtain rfl : T3 = T2 := (HA2.out.take hok31).same HA2.out (fun x => ⟨fun h => h.1, fun h => ⟨h, h.2⟩⟩)); (rw [show changed T3 T3 = false from by simp [changed]]); (have H31 := Lib.hid (H30.out.moveA HTw.out hmv31 hset31)))
              refine hK.out _ _ (FK.mk (hHeld.at_.moves hmv31 HNE.out HNV16.out) H31.out.bel) (fun hHeld => ?_)
              clear hK K
              try simp only [Act.put, List.setIfInBounds_toArray, List.set_cons_zero, List.set_cons_succ]
              refine wpAnyH_take (i := 29) (oi := ?ow228o) (v := ?ow228v) ?ow228h (by kernel_rfl) (by kernel_rfl) (by kernel_rfl) ?ow228q ?ow228y hHeld ?ow228r
              case ow228h => (simp only [List.getElem?_toArray, List.getElem?_cons_succ, List.getElem?_cons_zero]; rfl)
              case ow228q => exact fun _ _ _ h => h
              case ow228y => (refine Or.inl ⟨by first | kernel_rfl | rfl, ?_⟩; intro w hSw; (try dsimp only at hSw); obtain ⟨⟨x0, x1⟩, -⟩ := hSw; go_simp <;> (try with_reducible rfl))
              try simp only [Act.put, List.setIfInBounds_toArray, List.set_cons_zero, List.set_cons_succ]
              refine wpAnyH_take (i := 30) (oi := ?ow229o) (v := ?ow229v) ?ow229h (by kernel_rfl) (by kernel_rfl) (by kernel_rfl) ?ow229q ?ow229y hHeld ?ow229r
              case ow229h => (simp only [List.getElem?_toArray, List.getElem?_cons_succ, List.getElem?_cons_zero]; rfl)
              case ow229q => exact fun _ _ _ h => h
              case ow229y => (refine Or.inl ⟨by first | kernel_rfl | rfl, ?_⟩; intro w hSw; (try dsimp only at hSw); obtain ⟨⟨x0, x1⟩, -⟩ := hSw; go_simp <;> (try with_reducible rfl))
              try simp only [Act.put, List.setIfInBounds_toArray, List.set_cons_zero, List.set_cons_succ]
              refine wpAnyH_take (i := 31) (oi := ?ow230o) (v := ?ow230v) ?ow230h (by kernel_rfl) (by kernel_rfl) (by kernel_rfl) ?ow230q ?ow230y hHeld ?ow230r
              case ow230h => (simp only [List.getElem?_toArray, List.getElem?_cons_succ, List.getElem?_cons_zero]; rfl)
              case ow230q => exact fun _ _ _ h => h
              case ow230y => (refine Or.inl ⟨by first | kernel_rfl | rfl, ?_⟩; intro w hSw; (try dsimp only at hSw); obtain ⟨⟨x0, x1⟩, -⟩ := hSw; go_simp <;> (try with_reducible rfl))
              try simp only [Act.put, List.setIfInBounds_toArray, List.set_cons_zero, List.set_cons_succ]
              refine wpAnyH_done (by kernel_rfl) ?_ _
              have hbel := hHeld.bel
              go_wp2
              go_ret
              first | exact ⟨rfl, hbel⟩ | exact ⟨by rfl, hbel⟩

set_option maxHeartbeats 16000000 in
theorem takes_few (a0 : Option Addr) (len cap n : Nat) (o : OpI) (w : World) (hl : ArgOps w a0 len cap) (hT : Tab w) (hn : len ≤ 12) (hne : n = len) :
    Calls Tryd.prog 9 #[.slice a0 len cap, o.v] w fun e w' => e = .returned (.bool true) ∧ Below w.heap.size w w' := by
  obtain ⟨l, hll, hops, hlen, -⟩ := hl.has
  have hO0 := OpO.new8 w o
  have hB0 := (Below.refl w.heap.size w).alloc (Nat.le_refl _) (.cells #[.int .i64 o.k, .int .i64 o.f, .int .i64 o.n] 51)
  have hT0 := hT.alloc (.cells #[.int .i64 o.k, .int .i64 o.f, .int .i64 o.n] 51)
  have k0 := awake_is _ hT0
  have kn := new_nil
  have ksp := fun (p : OpI) (w : World) => span_is p.k p.f p.n p.sp w (Lib.hid rfl)
  unfold OpI.v
  unfold Sp.v at ksp
  have HC := Lib.hid (show ∀ i (h : i < l.length) (wr : World), Below w.heap.size w wr → ∃ g off, a0 = some ⟨g, off, none⟩ ∧ OpO wr g (off + i * 3) l[i] from fun i h wr hb => by
    rcases hops.at_ with e | ⟨g, off, e, hg, hc⟩
    · rw [e] at h; simp at h
    · exact ⟨g, off, e, (hc i h).below hb hg⟩)
  have HO := Lib.hid hO0
  have HB := Lib.hid hB0
  have HT := Lib.hid hT0
  have HTw := Lib.hid hT
  have HLL := Lib.hid hll
  clear hl hO0 hB0 hT0 hops hll
  go_enter Tryd.func9, Tryd.ntmps9
  go_wp2_with (first
    | (go_at_call 10; (with_reducible refine k0.mono ?_); rintro e w1 ⟨rfl, hb⟩; (have HB1 := Lib.hid (bel_next HB.out hb)); (have HO1 := Lib.hid (HO.out.below hb HO.out.room)); (have HT1 := Lib.hid (HT.out.next hb)); (have HS1 := Lib.hid hb.size); clear hb)
    | (go_at_call 33; first
      | ((with_reducible refine (kn _).mono ?_); rintro e w3 ⟨bb, vb, Tb, rfl, hgb, hsb, hob, hb⟩; (obtain rfl := newOk_nil hob); (have HB3 := Lib.hid (bel_next HB2.out hb)); (have HO3 := Lib.hid (HO2.out.below hb HO2.out.room)); (have HT3 := Lib.hid (HT2.out.next hb)); (have HSA3 := Lib.hid (HSA.out.later hb)); (have HSB3 := Lib.hid hsb); (have HGB := Lib.hid hgb); clear hb hsb hgb hob)
      | ((with_reducible refine (kn _).mono ?_); rintro e w2 ⟨ba, va, Ta, rfl, hga, hsa, hoa, hb⟩; (obtain rfl := newOk_nil hoa); (have HB2 := Lib.hid (bel_next HB1.out hb)); (have HO2 := Lib.hid (HO1.out.below hb HO1.out.room)); (have HT2 := Lib.hid (HT1.out.next hb)); (have HSA := Lib.hid hsa); (have HGA := Lib.hid hga); clear hb hsa hga hoa)))
  have HK : Hid (TK w o ba bb va vb [] [] w3) := Lib.hid (by
    have g1 := HGA.out
    have g2 := HGB.out
    have g3 := HS1.out
    have g4 := HSA.out.room
    simp at g3
    refine ⟨⟨HSA3.out, HSB3.out, by omega, fun e => ?_, fun e => ?_, fun q e e2 => ?_⟩, HO3.out, HT3.out, HB3.out, by omega, by omega⟩
    · have := (World.ownsRow.lt HSA.out.row _ e).2; omega
    · have := (World.ownsRow.lt HSB3.out.row _ e).1; omega
    · have := (World.ownsRow.lt HSA.out.row _ e).2; have := (World.ownsRow.lt HSB3.out.row _ e2).1; omega)
  go_loopw [9] (fun x wr => ∃ (i : Nat) (va vb : Value) (La Lb : List Sp), x = .int .i64 (i : Int) ∧ i ≤ n ∧ TK w o ba bb va vb La Lb wr ∧ Has La (upTo l i) ∧ Has Lb (downTo l n i)) (fun x _ => n - (intOf x).toNat)
  case atStart => exact ⟨0, va, vb, [], [], rfl, Nat.zero_le _, HK.out, Has.nil (fun x ⟨i, h, h1, _⟩ => by omega), Has.nil (fun x ⟨i, h, h1, h2, _⟩ => by omega)⟩
  case round =>
    obtain ⟨i, va, vb, La, Lb, rfl, hi, hTK, hLA, hLB⟩ := hrel
    obtain ⟨w3b, hw3⟩ : ∃ x, x = wr := ⟨_, rfl⟩
    subst hw3
    have HTK := Lib.hid hTK
    have HLA := Lib.hid hLA
    have HLB := Lib.hid hLB
    have HLAL := Lib.hid (hLA.few (fun x ⟨i, h, _, h2⟩ => cov_lt h2)).2.1
    have HLBL := Lib.hid (hLB.few (fun x ⟨i, h, _, _, h2⟩ => cov_lt h2)).2.1
    clear hTK hLA hLB
    by_cases hin : i < n
    · have hini : (i : Int) < (len : Int) := by omega
      have hiL : i < l.length := by rw [HLL.out]; omega
      obtain ⟨j, hj⟩ : ∃ j, n - 1 - i = j := ⟨_, rfl⟩
      have hjL : j < l.length := by rw [HLL.out]; omega
      obtain ⟨n1, hn1⟩ : ∃ n1 : Nat, len - 1 = n1 := ⟨_, rfl⟩
      have hni : (len : Int) - 1 = (n1 : Int) := by omega
      have hji : (n1 : Int) - (i : Int) = (j : Int) := by omega
      have hwn : IntKind.i64.wrap (n1 : Int) = (n1 : Int) := by rw [IntKind.wrap_i64]; omega
      clear hn1
      have hwj : IntKind.i64.wrap (j : Int) = (j : Int) := by rw [IntKind.wrap_i64]; omega
      have hwi : IntKind.i64.wrap ((i : Int) + 1) = (i : Int) + 1 := by rw [IntKind.wrap_i64]; omega
      have hil : (i : Int) < (len : Int) := by omega
      have hjl : (j : Int) < (len : Int) := by omega
      have hiln : i < len := by omega
      have hjln : j < len := by omega
      have hd : n = j + i + 1 := by omega
      obtain ⟨p, hp⟩ : ∃ p, l[i] = p := ⟨_, rfl⟩
      obtain ⟨r, hr⟩ : ∃ r, l[j] = r := ⟨_, rfl⟩
      obtain ⟨g, off, rfl, cp⟩ := HC.out i hiL w3b HTK.out.bel
      have HC2 := Lib.hid (show ∀ wr : World, Below w.heap.size w wr → OpO wr g (off + j * 3) r from fun wr hb => by
        obtain ⟨g2, off2, e, h⟩ := HC.out j hjL wr hb
        injection e with e; injection e with e1 e2; subst e1 e2
        rw [← hr]; exact h)
      rw [hp] at cp
      obtain ⟨p0, p1, p2⟩ := cp
      have HPS := Lib.hid (show ∀ x, (upTo l i x ∨ cov p.sp x) ↔ upTo l (i + 1) x from fun x => by rw [← hp]; exact upTo_step l i hiL x)
      have HRS := Lib.hid (show ∀ x, (downTo l n i x ∨ cov r.sp x) ↔ downTo l n (i + 1) x from fun x => by rw [← hr]; exact downTo_step l n i j hjL hd x)
      clear hp hr hj hd
      go_wp2_with (first
        | (go_at_call 34; first
          | ((with_reducible refine (ksp r _).mono ?_); rintro e w6 ⟨rfl, hb⟩; (have H6 := Lib.hid (H5.out.keep hb)); (have kA2 := add_is bb vb Lb r.sp w6 H6.out.two.b HLB.out.canon (by have := HLBL.out; omega)); unfold Sp.v at kA2; clear hb)
          | ((with_reducible refine (ksp p _).mono ?_); rintro e w4 ⟨rfl, hb⟩; (have H4 := Lib.hid (HTK.out.keep hb)); (have kA1 := add_is ba va La p.sp w4 H4.out.two.a HLA.out.canon (by have := HLAL.out; omega)); unfold Sp.v at kA1; clear hb))
        | (go_at_call 37; first
          | ((with_reducible refine kA2.mono ?_); rintro e w7 ⟨Tb, ⟨vb2, rfl, hset, hmv⟩, hok⟩; (have H7 := Lib.hid (H6.out.moveB HTw.out hmv hset)); (have HB7 := Lib.hid (HLB.out.add hok)); clear hset hmv hok)
          | ((with_reducible refine kA1.mono ?_); rintro e w5 ⟨Ta, ⟨va2, rfl, hset, hmv⟩, hok⟩; (have H5 := Lib.hid (H4.out.moveA HTw.out hmv hset)); (have HA5 := Lib.hid (HLA.out.add hok)); (have cr := HC2.out w5 H5.out.bel); (obtain ⟨r0, r1, r2⟩ := cr); clear hset hmv hok)))
      go_roundw
      case rel => exact ⟨i + 1, va2, vb2, Ta, Tb, by go_num, hin, H7.out, HA5.out.congr HPS.out, HB7.out.congr HRS.out⟩
      case measure => simp [intOf]; omega
    · have hini : ¬ (i : Int) < (len : Int) := by omega
      obtain rfl : i = n := by omega
      obtain rfl : La = Lb := HLA.out.same HLB.out (updown l i)
      clear HLB HLBL
      obtain ⟨s, hs⟩ : ∃ s, o.sp = s := ⟨_, rfl⟩
      have ksv := fun w => (show Calls Tryd.prog 34 #[.agg #[.int .i64 o.k, .int .i64 o.f, .int .i64 o.n]] w fun e w' => e = .returned (s.v) ∧ Below w.heap.size w w' by rw [← hs]; exact span_is o.k o.f o.n o.sp w (Lib.hid rfl))
      have hsb := opSp_bounds o.f o.n
      rw [show opSp o.f o.n = s from hs] at hsb
      have hcl : ∀ x, cov s x → x < 460 := fun x h => by rw [← hs] at h; exact cov_lt h
      have HCL := Lib.hid hcl
      have hqa : ∀ x, upTo l i x → x < 460 := fun x ⟨i, h, _, h2⟩ => cov_lt h2
      obtain ⟨fa1, fa2, fa3⟩ := HLA.out.few hqa
      have HFA := Lib.hid fa1
      have HFA3 := Lib.hid fa3
      have kc := fun w => check_is s _ w (Lib.hid rfl)
      have kpa := pspans_is ba va La w3b HTK.out.two.a (by omega)
      have HQA := Lib.hid hqa
      have hsame := fun (x y : Option Addr) (cx cy : Nat) (wr : World) (h1 : Sps wr wr.heap.size x La) (h2 : Sps wr wr.heap.size y La) => same_is x y cx cy La La true wr h1 h2 (by omega) (by omega) (Lib.hid (by simp))
      unfold Sp.v at ksv kc
      clear hs hcl hqa fa1 fa3
      cases hsi : s.is with
      | false =>
        rw [hsi] at kc
        rw [show errI false = 1 from rfl] at kc
        have HNC := Lib.hid (fun x => no_cov hsi x)
        go_wp2_with (first
          | (go_at_call 39; first
            | ((with_reducible refine kpb.mono ?_); rintro e w9 ⟨v9, rfl, hR, hb⟩; (obtain ⟨a9, c9, rfl⟩ := hR.slice); (have H9 := Lib.hid (H8.out.keep hb)); (have kss := hsame a8 a9 c8 c9 w9 ((HSP8.out.below hb).mono hb.size) hR.sps); clear hb hR)
            | ((with_reducible refine kpa.mono ?_); rintro e w8 ⟨v8, rfl, hR, hb⟩; (obtain ⟨a8, c8, rfl⟩ := hR.slice); (have H8 := Lib.hid (HTK.out.keep hb)); (have HSP8 := Lib.hid hR.sps); (have kpb := pspans_is bb vb La w8 H8.out.two.b (by omega)); clear hb hR))
          | (go_at_call 18; (with_reducible refine kss.mono ?_); rintro e w10 ⟨rfl, hb⟩; (have H10 := Lib.hid (H9.out.keep hb)); (have hop := H10.out.op); (obtain ⟨o0, o1, o2⟩ := hop); clear hb)
          | (go_at_call 34; (with_reducible refine (ksv _).mono ?_); rintro e w11 ⟨rfl, hb⟩; (have H11 := Lib.hid (H10.out.keep hb)); (have H12 := Lib.hid (H11.out.keep ((Below.refl _ _).alloc (Nat.le_refl _) (.cells #[.int .i64 s.f, .int .i64 s.t] 26)))); (have HS12 := Lib.hid (SpAt.new w11 s 26)); (have hs12 := HS12.out); (obtain ⟨s0, s1⟩ := hs12); (have HNE := Lib.hid (show w11.heap.size ≠ ba by have := H11.out.two.a.room; omega)); (have HNV := Lib.hid (show va.ownBlock ≠ some w11.heap.size from fun e => by have := (World.ownsRow.lt H11.out.two.a.row _ e).2; omega)); clear hb)
          | (go_at_call 22; (with_reducible refine (kc _).mono ?_); rintro e w13 ⟨rfl, hb⟩; (have H13 := Lib.hid (H12.out.keep hb)); (have HS13 := Lib.hid (HS12.out.below hb)); (have hs13 := HS13.out); (obtain ⟨t0, t1⟩ := hs13); clear hb)
          | (go_at_call 37; (have ka := add_is ba va La s w13 H13.out.two.a HLA.out.canon (by omega)); unfold Sp.v at ka; (with_reducible refine ka.mono ?_); rintro e w14 ⟨T, ⟨v14, rfl, hset, hmv⟩, hok⟩; (obtain rfl : T = La := (HLA.out.add hok).same HLA.out (fun x => ⟨fun h => h.elim id (fun h => absurd h (HNC.out x)), Or.inl⟩)); (rw [show changed T T = false from by simp [changed]]); (have HS14 := Lib.hid (HS13.out.moves hmv HNE.out HNV.out)); (have H14 := Lib.hid (H13.out.moveA HTw.out hmv hset)); (have hs14 := HS14.out); (obtain ⟨u0, u1⟩ := hs14); clear hset hmv hok)
          | (go_at_call 35; (have kt := take_is ba v14 T s w14 H14.out.two.a HLA.out.canon (by omega)); unfold Sp.v at kt; (with_reducible refine kt.mono ?_); rintro e w15 ⟨T2, ⟨v15, rfl, hset, hmv⟩, hok⟩; (obtain rfl : T2 = T := (HLA.out.take hok).same HLA.out (fun x => ⟨fun h => h.1, fun h => ⟨h, HNC.out x⟩⟩)); (rw [show changed T2 T2 = false from by simp [changed]]); (have H15 := Lib.hid (H14.out.moveA HTw.out hmv hset)); clear hset hmv hok))
        go_ret
        exact ⟨rfl, H15.out.bel⟩
      | true =>
        rw [hsi] at kc
        rw [show errI true = 0 from rfl] at kc
        have HCV := Lib.hid (fun x => cov_iff hsi x)
        have HIS := Lib.hid hsi
        go_wp2_with (first
          | (go_at_call 39; first
            | ((with_reducible refine kpb.mono ?_); rintro e w9 ⟨v9, rfl, hR, hb⟩; (obtain ⟨a9, c9, rfl⟩ := hR.slice); (have H9 := Lib.hid (H8.out.keep hb)); (have kss := hsame a8 a9 c8 c9 w9 ((HSP8.out.below hb).mono hb.size) hR.sps); clear hb hR)
            | ((with_reducible refine kpa.mono ?_); rintro e w8 ⟨v8, rfl, hR, hb⟩; (obtain ⟨a8, c8, rfl⟩ := hR.slice); (have H8 := Lib.hid (HTK.out.keep hb)); (have HSP8 := Lib.hid hR.sps); (have kpb := pspans_is bb vb La w8 H8.out.two.b (by omega)); clear hb hR))
          | (go_at_call 18; (with_reducible refine kss.mono ?_); rintro e w10 ⟨rfl, hb⟩; (have H10 := Lib.hid (H9.out.keep hb)); (have hop := H10.out.op); (obtain ⟨o0, o1, o2⟩ := hop); clear hb)
          | (go_at_call 34; (with_reducible refine (ksv _).mono ?_); rintro e w11 ⟨rfl, hb⟩; (have H11 := Lib.hid (H10.out.keep hb)); (have H12 := Lib.hid (H11.out.keep ((Below.refl _ _).alloc (Nat.le_refl _) (.cells #[.int .i64 s.f, .int .i64 s.t] 26)))); (have HS12 := Lib.hid (SpAt.new w11 s 26)); (have hs12 := HS12.out); (obtain ⟨s0, s1⟩ := hs12); (have HNE := Lib.hid (show w11.heap.size ≠ ba by have := H11.out.two.a.room; omega)); (have HNV := Lib.hid (show va.ownBlock ≠ some w11.heap.size from fun e => by have := (World.ownsRow.lt H11.out.two.a.row _ e).2; omega)); clear hb)
          | (go_at_call 22; (with_reducible refine (kc _).mono ?_); rintro e w13 ⟨rfl, hb⟩; (have H13 := Lib.hid (H12.out.keep hb)); (have HS13 := Lib.hid (HS12.out.below hb)); (have hs13 := HS13.out); (obtain ⟨t0, t1⟩ := hs13); clear hb)
          | (go_at_call 37; (have ka := add_is ba va La s w13 H13.out.two.a HLA.out.canon (by omega)); unfold Sp.v at ka; (with_reducible refine ka.mono ?_); rintro e w14 ⟨T1, ⟨v14, rfl, hset, hmv⟩, hok⟩; (have HA1 := Lib.hid (HLA.out.add hok)); (have HF1 := Lib.hid (HA1.out.few (fun x h => h.elim (HQA.out x) (HCL.out x)))); (have HNV14 := Lib.hid (hmv.not HNV.out HS13.out.room)); (have HS14 := Lib.hid (HS13.out.moves hmv HNE.out HNV.out)); (have H14 := Lib.hid (H13.out.moveA HTw.out hmv hset)); (obtain ⟨zz, hzz⟩ : ∃ z, changed T1 La = z := ⟨_, rfl⟩); (rw [hzz]); clear hset hmv hok hzz)
          | (go_at_call 40; (have kz := psize_is ba v14 T1 w14 H14.out.two.a (fewOk HA1.out.canon HF1.out.1)); (with_reducible refine kz.mono ?_); rintro e w15 ⟨rfl, hb⟩; (have H15 := Lib.hid (H14.out.keep hb)); (have HS15 := Lib.hid (HS14.out.below hb)); (have hs15 := HS15.out); (obtain ⟨u0, u1⟩ := hs15); clear hb)
          | (go_at_call 35; (have kt := take_is ba v14 T1 s w15 H15.out.two.a HA1.out.canon (by have := HF1.out.2.1; omega)); unfold Sp.v at kt; (with_reducible refine kt.mono ?_); rintro e w16 ⟨T2, ⟨v16, rfl, hset, hmv⟩, hok⟩; (have HA2 := Lib.hid (HA1.out.take hok)); (have HF2 := Lib.hid (HA2.out.few (fun x h => h.1.elim (HQA.out x) (HCL.out x)))); (have HNV16 := Lib.hid (hmv.not HNV14.out HS15.out.room)); (have HS16 := Lib.hid (HS15.out.moves hmv HNE.out HNV14.out)); (have H16 := Lib.hid (H15.out.moveA HTw.out hmv hset)); (obtain ⟨zt, hzt⟩ : ∃ z, changed T2 T1 = z := ⟨_, rfl⟩); (rw [hzt]); (have HZT := Lib.hid hzt); clear hset hmv hok hzt))
        have HDD := Lib.hid (show ∀ k : Int, hasD T2 k = (hasD La k && !decide (s.f ≤ k ∧ k < s.t)) from fun k => by
          rw [Bool.eq_iff_iff, Bool.and_eq_true, hasD_iff, hasD_iff, HA2.out.has k, HLA.out.has k, HCV.out k, Bool.not_eq_true', decide_eq_false_iff_not]
          constructor
          · rintro ⟨h1 | h1, h2⟩
            · exact ⟨h1, h2⟩
            · exact absurd h1 h2
          · rintro ⟨h1, h2⟩; exact ⟨Or.inl h1, h2⟩)
        have h13 : sumS T2 = sumS T1 - (s.t - s.f) := size_less (K := 1000) HA1.out.canon HA2.out.canon HF1.out.1 (fun x hx => (HA1.out.has x).2 (Or.inr hx)) (fun x => by rw [HA2.out.has x, HA1.out.has x]) HIS.out
        have hfew2 := fewOk HA2.out.canon HF2.out.1
        have hfew1 := fewOk HA1.out.canon HF1.out.1
        have hb1 := hfew1.bound T1.length
        have hb2 := hfew2.bound T2.length
        rw [List.take_of_length_le (Nat.le_refl _)] at hb1 hb2
        have hl1 := hfew1.len
        have hl2 := hfew2.len
        have hchg : changed T2 T1 = decide (s.f < s.t) := changed_iff (by
          rw [decide_eq_true_eq]
          constructor
          · intro h
            apply Decidable.byContradiction
            intro hn
            exact h (HA2.out.same HA1.out (fun x => ⟨fun h => h.1, fun h => ⟨h, by rw [HCV.out x]; omega⟩⟩))
          · intro h e
            have h1 : inS T1 s.f := (HA1.out.has s.f).2 (Or.inr ((HCV.out s.f).2 ⟨by omega, h⟩))
            rw [← e, HA2.out.has s.f] at h1
            exact h1.2 ((HCV.out s.f).2 ⟨by omega, h⟩))
        have hzt2 : zt = decide (s.f < s.t) := by rw [← hchg]; exact HZT.out.symm
        have HZ2 := Lib.hid hzt2
        obtain ⟨m1, hm1⟩ : ∃ m, sumS T1 = m := ⟨_, rfl⟩
        obtain ⟨m2, hm2⟩ : ∃ m, sumS T2 = m := ⟨_, rfl⟩
        rw [hm1, hm2] at h13
        rw [hm1] at hb1 ⊢
        rw [hm2] at hb2
        have HM2 := Lib.hid hm2
        have hwd : IntKind.i64.wrap (s.t - s.f) = s.t - s.f := by rw [IntKind.wrap_i64]; omega
        have hwm : IntKind.i64.wrap (m1 - (s.t - s.f)) = m1 - (s.t - s.f) := by rw [IntKind.wrap_i64]; omega
        have HM3 := Lib.hid h13
        clear hm1 hm2 hchg hzt2 hb1 hb2 hl1 hl2 hfew1 h13
        have HFW2 := Lib.hid hfew2
        clear hfew2
        go_loopw [14] (fun x wr => ∃ (k : Nat), x = .int .i64 (k : Int) ∧ k ≤ 470 ∧ TK w o ba bb v16 vb T2 La wr ∧ SpAt wr w11.heap.size s) (fun x _ => 470 - (intOf x).toNat)
        case atStart => exact ⟨0, rfl, Nat.zero_le _, H16.out, HS16.out⟩
        case round =>
          obtain ⟨k, rfl, hk3, hTK20, hS20⟩ := hrel
          obtain ⟨w20, hw20⟩ : ∃ x, x = wr := ⟨_, rfl⟩
          subst hw20
          have H20 := Lib.hid hTK20
          have HS20 := Lib.hid hS20
          obtain ⟨v0, v1⟩ := hS20
          clear hTK20
          by_cases hk4 : k < 470
          · have hk4i : (k : Int) < 470 := by omega
            have hwk : IntKind.i64.wrap ((k : Int) + 1) = (k : Int) + 1 := by rw [IntKind.wrap_i64]; omega
            have kha := phas_is ba v16 T2 (k : Int) w20 H20.out.tab (by omega) H20.out.two.a HA2.out.canon HF2.out.2.2 (by have := HF2.out.2.1; omega)
            have khb := fun wr h1 h2 => phas_is bb vb La (k : Int) wr h1 (by omega) h2 HLA.out.canon HFA3.out (by omega)
            by_cases hk1 : s.f ≤ (k : Int)
            · by_cases hk2 : (k : Int) < s.t
              · have hD : hasD T2 (k : Int) = (hasD La (k : Int) && false) := by rw [HDD.out, decide_eq_true ⟨hk1, hk2⟩]; rfl
                cases hz : hasD La (k : Int) with
                | true =>
                  rw [hz] at khb hD
                  rw [hD] at kha
                  clear hz hD
                  go_wp2_with (go_at_call 41; first
                    | ((with_reducible refine (khb _ H21.out.tab H21.out.two.b).mono ?_); rintro e w22 ⟨rfl, hb⟩; (have H22 := Lib.hid (H21.out.keep hb)); (have HS22 := Lib.hid (HS21.out.below hb)); clear hb)
                    | ((with_reducible refine kha.mono ?_); rintro e w21 ⟨rfl, hb⟩; (have H21 := Lib.hid (H20.out.keep hb)); (have HS21 := Lib.hid (HS20.out.below hb)); clear hb))
                  go_roundw
                  case rel => exact ⟨k + 1, by go_num, hk4, H22.out, HS22.out⟩
                  case measure => simp [intOf]; omega
                | false =>
                  rw [hz] at khb hD
                  rw [hD] at kha
                  clear hz hD
                  go_wp2_with (go_at_call 41; first
                    | ((with_reducible refine (khb _ H21.out.tab H21.out.two.b).mono ?_); rintro e w22 ⟨rfl, hb⟩; (have H22 := Lib.hid (H21.out.keep hb)); (have HS22 := Lib.hid (HS21.out.below hb)); clear hb)
                    | ((with_reducible refine kha.mono ?_); rintro e w21 ⟨rfl, hb⟩; (have H21 := Lib.hid (H20.out.keep hb)); (have HS21 := Lib.hid (HS20.out.below hb)); clear hb))
                  go_roundw
                  case rel => exact ⟨k + 1, by go_num, hk4, H22.out, HS22.out⟩
                  case measure => simp [intOf]; omega
              · have hD : hasD T2 (k : Int) = (hasD La (k : Int) && true) := by rw [HDD.out, decide_eq_false (fun h => hk2 h.2)]; rfl
                cases hz : hasD La (k : Int) with
                | true =>
                  rw [hz] at khb hD
                  rw [hD] at kha
                  clear hz hD
                  go_wp2_with (go_at_call 41; first
                    | ((with_reducible refine (khb _ H21.out.tab H21.out.two.b).mono ?_); rintro e w22 ⟨rfl, hb⟩; (have H22 := Lib.hid (H21.out.keep hb)); (have HS22 := Lib.hid (HS21.out.below hb)); clear hb)
                    | ((with_reducible refine kha.mono ?_); rintro e w21 ⟨rfl, hb⟩; (have H21 := Lib.hid (H20.out.keep hb)); (have HS21 := Lib.hid (HS20.out.below hb)); clear hb))
                  go_roundw
                  case rel => exact ⟨k + 1, by go_num, hk4, H22.out, HS22.out⟩
                  case measure => simp [intOf]; omega
                | false =>
                  rw [hz] at khb hD
                  rw [hD] at kha
                  clear hz hD
                  go_wp2_with (go_at_call 41; first
                    | ((with_reducible refine (khb _ H21.out.tab H21.out.two.b).mono ?_); rintro e w22 ⟨rfl, hb⟩; (have H22 := Lib.hid (H21.out.keep hb)); (have HS22 := Lib.hid (HS21.out.below hb)); clear hb)
                    | ((with_reducible refine kha.mono ?_); rintro e w21 ⟨rfl, hb⟩; (have H21 := Lib.hid (H20.out.keep hb)); (have HS21 := Lib.hid (HS20.out.below hb)); clear hb))
                  go_roundw
                  case rel => exact ⟨k + 1, by go_num, hk4, H22.out, HS22.out⟩
                  case measure => simp [intOf]; omega
            · have hD : hasD T2 (k : Int) = (hasD La (k : Int) && true) := by rw [HDD.out, decide_eq_false (fun h => hk1 h.1)]; rfl
              cases hz : hasD La (k : Int) with
              | true =>
                rw [hz] at khb hD
                rw [hD] at kha
                clear hz hD
                go_wp2_with (go_at_call 41; first
                  | ((with_reducible refine (khb _ H21.out.tab H21.out.two.b).mono ?_); rintro e w22 ⟨rfl, hb⟩; (have H22 := Lib.hid (H21.out.keep hb)); (have HS22 := Lib.hid (HS21.out.below hb)); clear hb)
                  | ((with_reducible refine kha.mono ?_); rintro e w21 ⟨rfl, hb⟩; (have H21 := Lib.hid (H20.out.keep hb)); (have HS21 := Lib.hid (HS20.out.below hb)); clear hb))
                go_roundw
                case rel => exact ⟨k + 1, by go_num, hk4, H22.out, HS22.out⟩
                case measure => simp [intOf]; omega
              | false =>
                rw [hz] at khb hD
                rw [hD] at kha
                clear hz hD
                go_wp2_with (go_at_call 41; first
                  | ((with_reducible refine (khb _ H21.out.tab H21.out.two.b).mono ?_); rintro e w22 ⟨rfl, hb⟩; (have H22 := Lib.hid (H21.out.keep hb)); (have HS22 := Lib.hid (HS21.out.below hb)); clear hb)
                  | ((with_reducible refine kha.mono ?_); rintro e w21 ⟨rfl, hb⟩; (have H21 := Lib.hid (H20.out.keep hb)); (have HS21 := Lib.hid (HS20.out.below hb)); clear hb))
                go_roundw
                case rel => exact ⟨k + 1, by go_num, hk4, H22.out, HS22.out⟩
                case measure => simp [intOf]; omega
          · have hk4i : ¬ (k : Int) < 470 := by omega
            have hmm : (m2 == m1 - (s.t - s.f)) = true := by rw [beq_iff_eq]; exact HM3.out
            have hKd := Lib.hid (FK.mk (w := w) (ps := w11.heap.size) (s := s) HS20.out H20.out.bel)
            have kz := psize_is ba v16 T2 w20.drew H20.out.drew.two.a HFW2.out
            rw [HM2.out] at kz
            have hz := HZ2.out
            by_cases hst : s.f < s.t
            · rw [decide_eq_true hst] at hz
              subst hz
              go_wp2_with fail
              refine wp_region_held_drew (S := (FK w w11.heap.size s)) (by kernel_rfl) hKd.out.drew (fun hHeld => ?_)
              refine wpAnyH_take (i := 0) (oi := ?ow11o) (v := ?ow11v) ?ow11h (by kernel_rfl) (by kernel_rfl) (by kernel_rfl) ?ow11q ?ow11y hHeld ?ow11r
              case ow11h => (simp only [List.getElem?_toArray, List.getElem?_cons_zero]; rfl)
              case ow11q => exact fun _ _ _ h => h
              case ow11y => (refine Or.inl ⟨by first | kernel_rfl | rfl, ?_⟩; intro w hSw; (try dsimp only at hSw); obtain ⟨⟨x0, x1⟩, -⟩ := hSw; go_simp <;> (try with_reducible rfl))
              try simp only [Act.put, List.setIfInBounds_toArray, List.set_cons_zero, List.set_cons_succ]
              refine wpAnyH_take (i := 1) (oi := ?ow12o) (v := ?ow12v) ?ow12h (by kernel_rfl) (by kernel_rfl) (by kernel_rfl) ?ow12q ?ow12y hHeld ?ow12r
              case ow12h => (simp only [List.getElem?_toArray, List.getElem?_cons_succ, List.getElem?_cons_zero]; rfl)
              case ow12q => exact fun _ _ _ h => h
              case ow12y => (refine Or.inl ⟨by first | kernel_rfl | rfl, ?_⟩; intro w hSw; (try dsimp only at hSw); obtain ⟨⟨x0, x1⟩, -⟩ := hSw; go_simp <;> (try with_reducible rfl))
              try simp only [Act.put, List.setIfInBounds_toArray, List.set_cons_zero, List.set_cons_succ]
              refine wpAnyH_take (i := 2) (oi := ?ow13o) (v := ?ow13v) ?ow13h (by kernel_rfl) (by kernel_rfl) (by kernel_rfl) ?ow13q ?ow13y hHeld ?ow13r
              case ow13h => (simp only [List.getElem?_toArray, List.getElem?_cons_succ, List.getElem?_cons_zero]; rfl)
              case ow13q => exact fun _ _ _ h => h
              case ow13y => (refine Or.inl ⟨by first | kernel_rfl | rfl, ?_⟩; intro w hSw; (try dsimp only at hSw); obtain ⟨⟨x0, x1⟩, -⟩ := hSw; go_simp <;> (try with_reducible rfl))
              try simp only [Act.put, List.setIfInBounds_toArray, List.set_cons_zero, List.set_cons_succ]
              refine wpAnyH_take (i := 3) (oi := ?ow14o) (v := ?ow14v) ?ow14h (by kernel_rfl) (by kernel_rfl) (by kernel_rfl) ?ow14q ?ow14y hHeld ?ow14r
              case ow14h => (simp only [List.getElem?_toArray, List.getElem?_cons_succ, List.getElem?_cons_zero]; rfl)
              case ow14q => exact fun _ _ _ h => h
              case ow14y => (refine Or.inl ⟨by first | kernel_rfl | rfl, ?_⟩; intro w hSw; (try dsimp only at hSw); obtain ⟨⟨x0, x1⟩, -⟩ := hSw; go_simp <;> (try with_reducible rfl))
              try simp only [Act.put, List.setIfInBounds_toArray, List.set_cons_zero, List.set_cons_succ]
              refine wpAnyH_take (i := 4) (oi := ?ow15o) (v := ?ow15v) ?ow15h (by kernel_rfl) (by kernel_rfl) (by kernel_rfl) ?ow15q ?ow15y hHeld ?ow15r
              case ow15h => (simp only [List.getElem?_toArray, List.getElem?_cons_succ, List.getElem?_cons_zero]; rfl)
              case ow15q => exact fun _ _ _ h => h
              case ow15y => (refine Or.inl ⟨by first | kernel_rfl | rfl, ?_⟩; intro w hSw; (try dsimp only at hSw); obtain ⟨⟨x0, x1⟩, -⟩ := hSw; go_simp <;> (try with_reducible rfl))
              try simp only [Act.put, List.setIfInBounds_toArray, List.set_cons_zero, List.set_cons_succ]
              refine wpAnyH_take (i := 5) (oi := ?ow16o) (v := ?ow16v) ?ow16h (by kernel_rfl) (by kernel_rfl) (by kernel_rfl) ?ow16q ?ow16y hHeld ?ow16r
              case ow16h => (simp only [List.getElem?_toArray, List.getElem?_cons_succ, List.getElem?_cons_zero]; rfl)
              case ow16q => exact fun _ _ _ h => h
              case ow16y => (refine Or.inl ⟨by first | kernel_rfl | rfl, ?_⟩; intro w hSw; (try dsimp only at hSw); obtain ⟨⟨x0, x1⟩, -⟩ := hSw; go_simp <;> (try with_reducible rfl))
              try simp only [Act.put, List.setIfInBounds_toArray, List.set_cons_zero, List.set_cons_succ]
              refine wpAnyH_take (i := 6) (oi := ?ow17o) (v := ?ow17v) ?ow17h (by kernel_rfl) (by kernel_rfl) (by kernel_rfl) ?ow17q ?ow17y hHeld ?ow17r
              case ow17h => (simp only [List.getElem?_toArray, List.getElem?_cons_succ, List.getElem?_cons_zero]; rfl)
              case ow17q => exact fun _ _ _ h => h
              case ow17y => (refine Or.inl ⟨by first | kernel_rfl | rfl, ?_⟩; intro w hSw; (try dsimp only at hSw); obtain ⟨⟨x0, x1⟩, -⟩ := hSw; go_simp <;> (try with_reducible rfl))
              try simp only [Act.put, List.setIfInBounds_toArray, List.set_cons_zero, List.set_cons_succ]
              refine wpAnyH_take (i := 7) (oi := ?ow18o) (v := ?ow18v) ?ow18h (by kernel_rfl) (by kernel_rfl) (by kernel_rfl) ?ow18q ?ow18y hHeld ?ow18r
              case ow18h => (simp only [List.getElem?_toArray, List.getElem?_cons_succ, List.getElem?_cons_zero]; rfl)
              case ow18q => exact fun _ _ _ h => h
              case ow18y => (refine Or.inl ⟨by first | kernel_rfl | rfl, ?_⟩; intro w hSw; (try dsimp only at hSw); obtain ⟨⟨x0, x1⟩, -⟩ := hSw; go_simp <;> (try with_reducible rfl))
              try simp only [Act.put, List.setIfInBounds_toArray, List.set_cons_zero, List.set_cons_succ]
              refine wpAnyH_take (i := 8) (oi := ?ow19o) (v := ?ow19v) ?ow19h (by kernel_rfl) (by kernel_rfl) (by kernel_rfl) ?ow19q ?ow19y hHeld ?ow19r
              case ow19h => (simp only [List.getElem?_toArray, List.getElem?_cons_succ, List.getElem?_cons_zero]; rfl)
              case ow19q => exact fun _ _ _ h => h
              case ow19y => (refine Or.inl ⟨by first | kernel_rfl | rfl, ?_⟩; intro w hSw; (try dsimp only at hSw); obtain ⟨⟨x0, x1⟩, -⟩ := hSw; go_simp <;> (try with_reducible rfl))
              try simp only [Act.put, List.setIfInBounds_toArray, List.set_cons_zero, List.set_cons_succ]
              refine wpAnyH_take (i := 9) (oi := ?ow110o) (v := ?ow110v) ?ow110h (by kernel_rfl) (by kernel_rfl) (by kernel_rfl) ?ow110q ?ow110y hHeld ?ow110r
              case ow110h => (simp only [List.getElem?_toArray, List.getElem?_cons_succ, List.getElem?_cons_zero]; rfl)
              case ow110q => exact fun _ _ _ h => h
              case ow110y => (refine Or.inl ⟨by first | kernel_rfl | rfl, ?_⟩; intro w hSw; (try dsimp only at hSw); obtain ⟨⟨x0, x1⟩, -⟩ := hSw; go_simp <;> (try with_reducible rfl))
              try simp only [Act.put, List.setIfInBounds_toArray, List.set_cons_zero, List.set_cons_succ]
              refine wpAnyH_take (i := 10) (oi := ?ow111o) (v := ?ow111v) ?ow111h (by kernel_rfl) (by kernel_rfl) (by kernel_rfl) ?ow111q ?ow111y hHeld ?ow111r
              case ow111h => (simp only [List.getElem?_toArray, List.getElem?_cons_succ, List.getElem?_cons_zero]; rfl)
              case ow111q => exact fun _ _ _ h => h
              case ow111y => (refine Or.inl ⟨by first | kernel_rfl | rfl, ?_⟩; intro w hSw; (try dsimp only at hSw); obtain ⟨⟨x0, x1⟩, -⟩ := hSw; go_simp <;> (try with_reducible rfl))
              try simp only [Act.put, List.setIfInBounds_toArray, List.set_cons_zero, List.set_cons_succ]
              refine wpAnyH_take (i := 11) (oi := ?ow112o) (v := ?ow112v) ?ow112h (by kernel_rfl) (by kernel_rfl) (by kernel_rfl) ?ow112q ?ow112y hHeld ?ow112r
              case ow112h => (simp only [List.getElem?_toArray, List.getElem?_cons_succ, List.getElem?_cons_zero]; rfl)
              case ow112q => exact fun _ _ _ h => h
              case ow112y => (refine Or.inl ⟨by first | kernel_rfl | rfl, ?_⟩; intro w hSw; (try dsimp only at hSw); obtain ⟨⟨x0, x1⟩, -⟩ := hSw; go_simp <;> (try with_reducible rfl))
              try simp only [Act.put, List.setIfInBounds_toArray, List.set_cons_zero, List.set_cons_succ]
              refine wpAnyH_take (i := 12) (oi := ?ow113o) (v := ?ow113v) ?ow113h (by kernel_rfl) (by kernel_rfl) (by kernel_rfl) ?ow113q ?ow113y hHeld ?ow113r
              case ow113h => (simp only [List.getElem?_toArray, List.getElem?_cons_succ, List.getElem?_cons_zero]; rfl)
              case ow113q => exact fun _ _ _ h => h
              case ow113y => (refine Or.inl ⟨by first | kernel_rfl | rfl, ?_⟩; intro w hSw; (try dsimp only at hSw); obtain ⟨⟨x0, x1⟩, -⟩ := hSw; go_simp <;> (try with_reducible rfl))
              try simp only [Act.put, List.setIfInBounds_toArray, List.set_cons_zero, List.set_cons_succ]
              refine wpAnyH_take (i := 13) (oi := ?ow114o) (v := ?ow114v) ?ow114h (by kernel_rfl) (by kernel_rfl) (by kernel_rfl) ?ow114q ?ow114y hHeld ?ow114r
              case ow114h => (simp only [List.getElem?_toArray, List.getElem?_cons_succ, List.getElem?_cons_zero]; rfl)
              case ow114q => exact fun _ _ _ h => h
              case ow114y => (refine Or.inl ⟨by first | kernel_rfl | rfl, ?_⟩; intro w hSw; (try dsimp only at hSw); obtain ⟨⟨x0, x1⟩, -⟩ := hSw; go_simp <;> (try with_reducible rfl))
              try simp only [Act.put, List.setIfInBounds_toArray, List.set_cons_zero, List.set_cons_succ]
              refine wpAnyH_take (i := 14) (oi := ?ow115o) (v := ?ow115v) ?ow115h (by kernel_rfl) (by kernel_rfl) (by kernel_rfl) ?ow115q ?ow115y hHeld ?ow115r
              case ow115h => (simp only [List.getElem?_toArray, List.getElem?_cons_succ, List.getElem?_cons_zero]; rfl)
              case ow115q => exact fun _ _ _ h => h
              case ow115y => (refine Or.inl ⟨by first | kernel_rfl | rfl, ?_⟩; intro w hSw; (try dsimp only at hSw); obtain ⟨⟨x0, x1⟩, -⟩ := hSw; go_simp <;> (try with_reducible rfl))
              try simp only [Act.put, List.setIfInBounds_toArray, List.set_cons_zero, List.set_cons_succ]
              refine wpAnyH_take (i := 16) (oi := ?ow116o) (v := ?ow116v) ?ow116h (by kernel_rfl) (by kernel_rfl) (by kernel_rfl) ?ow116q ?ow116y hHeld ?ow116r
              case ow116h => (simp only [List.getElem?_toArray, List.getElem?_cons_succ, List.getElem?_cons_zero]; rfl)
              case ow116q => exact fun _ _ _ h => h
              case ow116y => (refine Or.inl ⟨by first | kernel_rfl | rfl, ?_⟩; intro w hSw; (try dsimp only at hSw); obtain ⟨⟨x0, x1⟩, -⟩ := hSw; go_simp <;> (try with_reducible rfl))
              try simp only [Act.put, List.setIfInBounds_toArray, List.set_cons_zero, List.set_cons_succ]
              refine wpAnyH_take (i := 17) (oi := ?ow117o) (v := ?ow117v) ?ow117h (by kernel_rfl) (by kernel_rfl) (by kernel_rfl) ?ow117q ?ow117y hHeld ?ow117r
              case ow117h => (simp only [List.getElem?_toArray, List.getElem?_cons_succ, List.getElem?_cons_zero]; rfl)
              case ow117q => exact fun _ _ _ h => h
              case ow117y => (refine Or.inl ⟨by first | kernel_rfl | rfl, ?_⟩; intro w hSw; (try dsimp only at hSw); obtain ⟨⟨x0, x1⟩, -⟩ := hSw; go_simp <;> (try with_reducible rfl))
              try simp only [Act.put, List.setIfInBounds_toArray, List.set_cons_zero, List.set_cons_succ]
              refine wpAnyH_take (i := 18) (oi := ?ow118o) (v := ?ow118v) ?ow118h (by kernel_rfl) (by kernel_rfl) (by kernel_rfl) ?ow118q ?ow118y hHeld ?ow118r
              case ow118h => (simp only [List.getElem?_toArray, List.getElem?_cons_succ, List.getElem?_cons_zero]; rfl)
              case ow118q => exact fun _ _ _ h => h
              case ow118y => (refine Or.inl ⟨by first | kernel_rfl | rfl, ?_⟩; intro w hSw; (try dsimp only at hSw); obtain ⟨⟨x0, x1⟩, -⟩ := hSw; go_simp <;> (try with_reducible rfl))
              try simp only [Act.put, List.setIfInBounds_toArray, List.set_cons_zero, List.set_cons_succ]
              refine wpAnyH_take (i := 19) (oi := ?ow119o) (v := ?ow119v) ?ow119h (by kernel_rfl) (by kernel_rfl) (by kernel_rfl) ?ow119q ?ow119y hHeld ?ow119r
              case ow119h => (simp only [List.getElem?_toArray, List.getElem?_cons_succ, List.getElem?_cons_zero]; rfl)
              case ow119q => exact fun _ _ _ h => h
              case ow119y => (refine Or.inl ⟨by first | kernel_rfl | rfl, ?_⟩; intro w hSw; (try dsimp only at hSw); obtain ⟨⟨x0, x1⟩, -⟩ := hSw; go_simp <;> (try with_reducible rfl))
              try simp only [Act.put, List.setIfInBounds_toArray, List.set_cons_zero, List.set_cons_succ]
              refine wpAnyH_take (i := 20) (oi := ?ow120o) (v := ?ow120v) ?ow120h (by kernel_rfl) (by kernel_rfl) (by kernel_rfl) ?ow120q ?ow120y hHeld ?ow120r
              case ow120h => (simp only [List.getElem?_toArray, List.getElem?_cons_succ, List.getElem?_cons_zero]; rfl)
              case ow120q => exact fun _ _ _ h => h
              case ow120y => (refine Or.inl ⟨by first | kernel_rfl | rfl, ?_⟩; intro w hSw; (try dsimp only at hSw); obtain ⟨⟨x0, x1⟩, -⟩ := hSw; go_simp <;> (try with_reducible rfl))
              try simp only [Act.put, List.setIfInBounds_toArray, List.set_cons_zero, List.set_cons_succ]
              refine wpAnyH_take (i := 21) (oi := ?ow121o) (v := ?ow121v) ?ow121h (by kernel_rfl) (by kernel_rfl) (by kernel_rfl) ?ow121q ?ow121y hHeld ?ow121r
              case ow121h => (simp only [List.getElem?_toArray, List.getElem?_cons_succ, List.getElem?_cons_zero]; rfl)
              case ow121q => exact fun _ _ _ h => h
              case ow121y => (refine Or.inl ⟨by first | kernel_rfl | rfl, ?_⟩; intro w hSw; (try dsimp only at hSw); obtain ⟨⟨x0, x1⟩, -⟩ := hSw; go_simp <;> (try with_reducible rfl))
              try simp only [Act.put, List.setIfInBounds_toArray, List.set_cons_zero, List.set_cons_succ]
              refine wpAnyH_take (i := 22) (oi := ?ow122o) (v := ?ow122v) ?ow122h (by kernel_rfl) (by kernel_rfl) (by kernel_rfl) ?ow122q ?ow122y hHeld ?ow122r
              case ow122h => (simp only [List.getElem?_toArray, List.getElem?_cons_succ, List.getElem?_cons_zero]; rfl)
              case ow122q => exact fun _ _ _ h => h
              case ow122y => (refine Or.inl ⟨by first | kernel_rfl | rfl, ?_⟩; intro w hSw; (try dsimp only at hSw); obtain ⟨⟨x0, x1⟩, -⟩ := hSw; go_simp <;> (try with_reducible rfl))
              try simp only [Act.put, List.setIfInBounds_toArray, List.set_cons_zero, List.set_cons_succ]
              refine wpAnyH_ready (rs := [15]) (by kernel_rfl) (by simp) ?_
              refine (AllReadyH.cons rfl (fun K hK => ?_) AllReadyH.nil)
              go_simp
              ((with_reducible refine kz.mono ?_); rintro e w30 ⟨rfl, hb30⟩; have H30 := Lib.hid (H20.out.drew.keep hb30))
              refine hK.out _ _ (hHeld.keep hb30) (fun hHeld => ?_)
              clear hK K
              try simp only [Act.put, List.setIfInBounds_toArray, List.set_cons_zero, List.set_cons_succ]
              refine wpAnyH_take (i := 23) (oi := ?ow123o) (v := ?ow123v) ?ow123h (by kernel_rfl) (by kernel_rfl) (by kernel_rfl) ?ow123q ?ow123y hHeld ?ow123r
              case ow123h => (simp only [List.getElem?_toArray, List.getElem?_cons_succ, List.getElem?_cons_zero]; rfl)
              case ow123q => exact fun _ _ _ h => h
              case ow123y => (refine Or.inl ⟨by first | kernel_rfl | rfl, ?_⟩; intro w hSw; (try dsimp only at hSw); obtain ⟨⟨x0, x1⟩, -⟩ := hSw; go_simp <;> (try with_reducible rfl))
              try simp only [Act.put, List.setIfInBounds_toArray, List.set_cons_zero, List.set_cons_succ]
              refine wpAnyH_take (i := 24) (oi := ?ow124o) (v := ?ow124v) ?ow124h (by kernel_rfl) (by kernel_rfl) (by kernel_rfl) ?ow124q ?ow124y hHeld ?ow124r
              case ow124h => (simp only [List.getElem?_toArray, List.getElem?_cons_succ, List.getElem?_cons_zero]; rfl)
              case ow124q => exact fun _ _ _ h => h
              case ow124y => (refine Or.inl ⟨by first | kernel_rfl | rfl, ?_⟩; intro w hSw; (try dsimp only at hSw); obtain ⟨⟨x0, x1⟩, -⟩ := hSw; go_simp <;> (try with_reducible rfl))
              try simp only [Act.put, List.setIfInBounds_toArray, List.set_cons_zero, List.set_cons_succ]
              refine wpAnyH_take (i := 25) (oi := ?ow125o) (v := ?ow125v) ?ow125h (by kernel_rfl) (by kernel_rfl) (by kernel_rfl) ?ow125q ?ow125y hHeld ?ow125r
              case ow125h => (simp only [List.getElem?_toArray, List.getElem?_cons_succ, List.getElem?_cons_zero]; rfl)
              case ow125q => exact fun _ _ _ h => h
              case ow125y => (refine Or.inl ⟨by first | kernel_rfl | rfl, ?_⟩; intro w hSw; (try dsimp only at hSw); obtain ⟨⟨x0, x1⟩, -⟩ := hSw; go_simp <;> (try with_reducible rfl))
              try simp only [Act.put, List.setIfInBounds_toArray, List.set_cons_zero, List.set_cons_succ]
              refine wpAnyH_take (i := 26) (oi := ?ow126o) (v := ?ow126v) ?ow126h (by kernel_rfl) (by kernel_rfl) (by kernel_rfl) ?ow126q ?ow126y hHeld ?ow126r
              case ow126h => (simp only [List.getElem?_toArray, List.getElem?_cons_succ, List.getElem?_cons_zero]; rfl)
              case ow126q => exact fun _ _ _ h => h
              case ow126y => (refine Or.inl ⟨by first | kernel_rfl | rfl, ?_⟩; intro w hSw; (try dsimp only at hSw); obtain ⟨⟨x0, x1⟩, -⟩ := hSw; go_simp <;> (try with_reducible rfl))
              try simp only [Act.put, List.setIfInBounds_toArray, List.set_cons_zero, List.set_cons_succ]
              refine wpAnyH_take (i := 27) (oi := ?ow127o) (v := ?ow127v) ?ow127h (by kernel_rfl) (by kernel_rfl) (by kernel_rfl) ?ow127q ?ow127y hHeld ?ow127r
              case ow127h => (simp only [List.getElem?_toArray, List.getElem?_cons_succ, List.getElem?_cons_zero]; rfl)
              case ow127q => exact fun _ _ _ h => h
              case ow127y => (refine Or.inl ⟨by first | kernel_rfl | rfl, ?_⟩; intro w hSw; (try dsimp only at hSw); obtain ⟨⟨x0, x1⟩, -⟩ := hSw; go_simp <;> (try with_reducible rfl))
              try simp only [Act.put, List.setIfInBounds_toArray, List.set_cons_zero, List.set_cons_succ]
              refine wpAnyH_ready (rs := [28]) (by kernel_rfl) (by simp) ?_
              refine (AllReadyH.cons rfl (fun K hK => ?_) AllReadyH.nil)
              go_simp
              ((have kt := take_is ba v16 T2 s w30 H30.out.two.a HA2.out.canon (by have := HF2.out.2.1; omega)); unfold Sp.v at kt; (with_reducible refine kt.mono ?_); rintro e w31 ⟨T3, ⟨v31, rfl, hset31, hmv31⟩, hok31⟩; (obtain rfl : T3 = T2 := (HA2.out.take hok31).same HA2.out (fun x => ⟨fun h => h.1, fun h => ⟨h, h.2⟩⟩)); (rw [show changed T3 T3 = false from by simp [changed]]); (have H31 := Lib.hid (H30.out.moveA HTw.out hmv31 hset31)))
              refine hK.out _ _ (FK.mk (hHeld.at_.moves hmv31 HNE.out HNV16.out) H31.out.bel) (fun hHeld => ?_)
              clear hK K
              try simp only [Act.put, List.setIfInBounds_toArray, List.set_cons_zero, List.set_cons_succ]
              refine wpAnyH_take (i := 29) (oi := ?ow128o) (v := ?ow128v) ?ow128h (by kernel_rfl) (by kernel_rfl) (by kernel_rfl) ?ow128q ?ow128y hHeld ?ow128r
              case ow128h => (simp only [List.getElem?_toArray, List.getElem?_cons_succ, List.getElem?_cons_zero]; rfl)
              case ow128q => exact fun _ _ _ h => h
              case ow128y => (refine Or.inl ⟨by first | kernel_rfl | rfl, ?_⟩; intro w hSw; (try dsimp only at hSw); obtain ⟨⟨x0, x1⟩, -⟩ := hSw; go_simp <;> (try with_reducible rfl))
              try simp only [Act.put, List.setIfInBounds_toArray, List.set_cons_zero, List.set_cons_succ]
              refine wpAnyH_take (i := 30) (oi := ?ow129o) (v := ?ow129v) ?ow129h (by kernel_rfl) (by kernel_rfl) (by kernel_rfl) ?ow129q ?ow129y hHeld ?ow129r
              case ow129h => (simp only [List.getElem?_toArray, List.getElem?_cons_succ, List.getElem?_cons_zero]; rfl)
              case ow129q => exact fun _ _ _ h => h
              case ow129y => (refine Or.inl ⟨by first | kernel_rfl | rfl, ?_⟩; intro w hSw; (try dsimp only at hSw); obtain ⟨⟨x0, x1⟩, -⟩ := hSw; go_simp <;> (try with_reducible rfl))
              try simp only [Act.put, List.setIfInBounds_toArray, List.set_cons_zero, List.set_cons_succ]
              refine wpAnyH_take (i := 31) (oi := ?ow130o) (v := ?ow130v) ?ow130h (by kernel_rfl) (by kernel_rfl) (by kernel_rfl) ?ow130q ?ow130y hHeld ?ow130r
              case ow130h => (simp only [List.getElem?_toArray, List.getElem?_cons_succ, List.getElem?_cons_zero]; rfl)
              case ow130q => exact fun _ _ _ h => h
              case ow130y => (refine Or.inl ⟨by first | kernel_rfl | rfl, ?_⟩; intro w hSw; (try dsimp only at hSw); obtain ⟨⟨x0, x1⟩, -⟩ := hSw; go_simp <;> (try with_reducible rfl))
              try simp only [Act.put, List.setIfInBounds_toArray, List.set_cons_zero, List.set_cons_succ]
              refine wpAnyH_done (by kernel_rfl) ?_ _
              have hbel := hHeld.bel
              go_wp2
              go_ret
              first | exact ⟨rfl, hbel⟩ | exact ⟨by rfl, hbel⟩
            · rw [decide_eq_false hst] at hz
              subst hz
              have hfe : s.t = s.f := by have := Sp.is_iff.1 HIS.out; omega
              have hm12 : m2 = m1 := by have := HM3.out; omega
              subst hm12
              have hwm1 : IntKind.i64.wrap m2 = m2 := by rw [hfe] at hwm; simpa using hwm
              have hw0 : IntKind.i64.wrap 0 = 0 := by rfl
              clear hwm hmm hwd hst
              go_wp2_with fail
              refine wp_region_held_drew (S := (FK w w11.heap.size s)) (by kernel_rfl) hKd.out.drew (fun hHeld => ?_)
              refine wpAnyH_take (i := 0) (oi := ?ow21o) (v := ?ow21v) ?ow21h (by kernel_rfl) (by kernel_rfl) (by kernel_rfl) ?ow21q ?ow21y hHeld ?ow21r
              case ow21h => (simp only [List.getElem?_toArray, List.getElem?_cons_zero]; rfl)
              case ow21q => exact fun _ _ _ h => h
              case ow21y => (refine Or.inl ⟨by first | kernel_rfl | rfl, ?_⟩; intro w hSw; (try dsimp only at hSw); obtain ⟨⟨x0, x1⟩, -⟩ := hSw; go_simp <;> (try with_reducible rfl))
              try simp only [Act.put, List.setIfInBounds_toArray, List.set_cons_zero, List.set_cons_succ]
              refine wpAnyH_take (i := 1) (oi := ?ow22o) (v := ?ow22v) ?ow22h (by kernel_rfl) (by kernel_rfl) (by kernel_rfl) ?ow22q ?ow22y hHeld ?ow22r
              case ow22h => (simp only [List.getElem?_toArray, List.getElem?_cons_succ, List.getElem?_cons_zero]; rfl)
              case ow22q => exact fun _ _ _ h => h
              case ow22y => (refine Or.inl ⟨by first | kernel_rfl | rfl, ?_⟩; intro w hSw; (try dsimp only at hSw); obtain ⟨⟨x0, x1⟩, -⟩ := hSw; go_simp <;> (try with_reducible rfl))
              try simp only [Act.put, List.setIfInBounds_toArray, List.set_cons_zero, List.set_cons_succ]
              refine wpAnyH_take (i := 2) (oi := ?ow23o) (v := ?ow23v) ?ow23h (by kernel_rfl) (by kernel_rfl) (by kernel_rfl) ?ow23q ?ow23y hHeld ?ow23r
              case ow23h => (simp only [List.getElem?_toArray, List.getElem?_cons_succ, List.getElem?_cons_zero]; rfl)
              case ow23q => exact fun _ _ _ h => h
              case ow23y => (refine Or.inl ⟨by first | kernel_rfl | rfl, ?_⟩; intro w hSw; (try dsimp only at hSw); obtain ⟨⟨x0, x1⟩, -⟩ := hSw; go_simp <;> (try with_reducible rfl))
              try simp only [Act.put, List.setIfInBounds_toArray, List.set_cons_zero, List.set_cons_succ]
              refine wpAnyH_take (i := 3) (oi := ?ow24o) (v := ?ow24v) ?ow24h (by kernel_rfl) (by kernel_rfl) (by kernel_rfl) ?ow24q ?ow24y hHeld ?ow24r
              case ow24h => (simp only [List.getElem?_toArray, List.getElem?_cons_succ, List.getElem?_cons_zero]; rfl)
              case ow24q => exact fun _ _ _ h => h
              case ow24y => (refine Or.inl ⟨by first | kernel_rfl | rfl, ?_⟩; intro w hSw; (try dsimp only at hSw); obtain ⟨⟨x0, x1⟩, -⟩ := hSw; go_simp <;> (try with_reducible rfl))
              try simp only [Act.put, List.setIfInBounds_toArray, List.set_cons_zero, List.set_cons_succ]
              refine wpAnyH_take (i := 4) (oi := ?ow25o) (v := ?ow25v) ?ow25h (by kernel_rfl) (by kernel_rfl) (by kernel_rfl) ?ow25q ?ow25y hHeld ?ow25r
              case ow25h => (simp only [List.getElem?_toArray, List.getElem?_cons_succ, List.getElem?_cons_zero]; rfl)
              case ow25q => exact fun _ _ _ h => h
              case ow25y => (refine Or.inl ⟨by first | kernel_rfl | rfl, ?_⟩; intro w hSw; (try dsimp only at hSw); obtain ⟨⟨x0, x1⟩, -⟩ := hSw; go_simp <;> (try with_reducible rfl))
              try simp only [Act.put, List.setIfInBounds_toArray, List.set_cons_zero, List.set_cons_succ]
              refine wpAnyH_take (i := 5) (oi := ?ow26o) (v := ?ow26v) ?ow26h (by kernel_rfl) (by kernel_rfl) (by kernel_rfl) ?ow26q ?ow26y hHeld ?ow26r
              case ow26h => (simp only [List.getElem?_toArray, List.getElem?_cons_succ, List.getElem?_cons_zero]; rfl)
              case ow26q => exact fun _ _ _ h => h
              case ow26y => (refine Or.inl ⟨by first | kernel_rfl | rfl, ?_⟩; intro w hSw; (try dsimp only at hSw); obtain ⟨⟨x0, x1⟩, -⟩ := hSw; go_simp <;> (try with_reducible rfl))
              try simp only [Act.put, List.setIfInBounds_toArray, List.set_cons_zero, List.set_cons_succ]
              refine wpAnyH_take (i := 6) (oi := ?ow27o) (v := ?ow27v) ?ow27h (by kernel_rfl) (by kernel_rfl) (by kernel_rfl) ?ow27q ?ow27y hHeld ?ow27r
              case ow27h => (simp only [List.getElem?_toArray, List.getElem?_cons_succ, List.getElem?_cons_zero]; rfl)
              case ow27q => exact fun _ _ _ h => h
              case ow27y => (refine Or.inl ⟨by first | kernel_rfl | rfl, ?_⟩; intro w hSw; (try dsimp only at hSw); obtain ⟨⟨x0, x1⟩, -⟩ := hSw; go_simp <;> (try with_reducible rfl))
              try simp only [Act.put, List.setIfInBounds_toArray, List.set_cons_zero, List.set_cons_succ]
              refine wpAnyH_take (i := 7) (oi := ?ow28o) (v := ?ow28v) ?ow28h (by kernel_rfl) (by kernel_rfl) (by kernel_rfl) ?ow28q ?ow28y hHeld ?ow28r
              case ow28h => (simp only [List.getElem?_toArray, List.getElem?_cons_succ, List.getElem?_cons_zero]; rfl)
              case ow28q => exact fun _ _ _ h => h
              case ow28y => (refine Or.inl ⟨by first | kernel_rfl | rfl, ?_⟩; intro w hSw; (try dsimp only at hSw); obtain ⟨⟨x0, x1⟩, -⟩ := hSw; go_simp <;> (try with_reducible rfl))
              try simp only [Act.put, List.setIfInBounds_toArray, List.set_cons_zero, List.set_cons_succ]
              refine wpAnyH_take (i := 8) (oi := ?ow29o) (v := ?ow29v) ?ow29h (by kernel_rfl) (by kernel_rfl) (by kernel_rfl) ?ow29q ?ow29y hHeld ?ow29r
              case ow29h => (simp only [List.getElem?_toArray, List.getElem?_cons_succ, List.getElem?_cons_zero]; rfl)
              case ow29q => exact fun _ _ _ h => h
              case ow29y => (refine Or.inl ⟨by first | kernel_rfl | rfl, ?_⟩; intro w hSw; (try dsimp only at hSw); obtain ⟨⟨x0, x1⟩, -⟩ := hSw; go_simp <;> (try with_reducible rfl))
              try simp only [Act.put, List.setIfInBounds_toArray, List.set_cons_zero, List.set_cons_succ]
              refine wpAnyH_take (i := 9) (oi := ?ow210o) (v := ?ow210v) ?ow210h (by kernel_rfl) (by kernel_rfl) (by kernel_rfl) ?ow210q ?ow210y hHeld ?ow210r
              case ow210h => (simp only [List.getElem?_toArray, List.getElem?_cons_succ, List.getElem?_cons_zero]; rfl)
              case ow210q => exact fun _ _ _ h => h
              case ow210y => (refine Or.inl ⟨by first | kernel_rfl | rfl, ?_⟩; intro w hSw; (try dsimp only at hSw); obtain ⟨⟨x0, x1⟩, -⟩ := hSw; go_simp <;> (try with_reducible rfl))
              try simp only [Act.put, List.setIfInBounds_toArray, List.set_cons_zero, List.set_cons_succ]
              refine wpAnyH_take (i := 10) (oi := ?ow211o) (v := ?ow211v) ?ow211h (by kernel_rfl) (by kernel_rfl) (by kernel_rfl) ?ow211q ?ow211y hHeld ?ow211r
              case ow211h => (simp only [List.getElem?_toArray, List.getElem?_cons_succ, List.getElem?_cons_zero]; rfl)
              case ow211q => exact fun _ _ _ h => h
              case ow211y => (refine Or.inl ⟨by first | kernel_rfl | rfl, ?_⟩; intro w hSw; (try dsimp only at hSw); obtain ⟨⟨x0, x1⟩, -⟩ := hSw; go_simp <;> (try with_reducible rfl))
              try simp only [Act.put, List.setIfInBounds_toArray, List.set_cons_zero, List.set_cons_succ]
              refine wpAnyH_take (i := 11) (oi := ?ow212o) (v := ?ow212v) ?ow212h (by kernel_rfl) (by kernel_rfl) (by kernel_rfl) ?ow212q ?ow212y hHeld ?ow212r
              case ow212h => (simp only [List.getElem?_toArray, List.getElem?_cons_succ, List.getElem?_cons_zero]; rfl)
              case ow212q => exact fun _ _ _ h => h
              case ow212y => (refine Or.inl ⟨by first | kernel_rfl | rfl, ?_⟩; intro w hSw; (try dsimp only at hSw); obtain ⟨⟨x0, x1⟩, -⟩ := hSw; go_simp <;> (try with_reducible rfl))
              try simp only [Act.put, List.setIfInBounds_toArray, List.set_cons_zero, List.set_cons_succ]
              refine wpAnyH_take (i := 12) (oi := ?ow213o) (v := ?ow213v) ?ow213h (by kernel_rfl) (by kernel_rfl) (by kernel_rfl) ?ow213q ?ow213y hHeld ?ow213r
              case ow213h => (simp only [List.getElem?_toArray, List.getElem?_cons_succ, List.getElem?_cons_zero]; rfl)
              case ow213q => exact fun _ _ _ h => h
              case ow213y => (refine Or.inl ⟨by first | kernel_rfl | rfl, ?_⟩; intro w hSw; (try dsimp only at hSw); obtain ⟨⟨x0, x1⟩, -⟩ := hSw; go_simp <;> (try with_reducible rfl))
              try simp only [Act.put, List.setIfInBounds_toArray, List.set_cons_zero, List.set_cons_succ]
              refine wpAnyH_take (i := 13) (oi := ?ow214o) (v := ?ow214v) ?ow214h (by kernel_rfl) (by kernel_rfl) (by kernel_rfl) ?ow214q ?ow214y hHeld ?ow214r
              case ow214h => (simp only [List.getElem?_toArray, List.getElem?_cons_succ, List.getElem?_cons_zero]; rfl)
              case ow214q => exact fun _ _ _ h => h
              case ow214y => (refine Or.inl ⟨by first | kernel_rfl | rfl, ?_⟩; intro w hSw; (try dsimp only at hSw); obtain ⟨⟨x0, x1⟩, -⟩ := hSw; go_simp <;> (try with_reducible rfl))
              try simp only [Act.put, List.setIfInBounds_toArray, List.set_cons_zero, List.set_cons_succ]
              refine wpAnyH_take (i := 14) (oi := ?ow215o) (v := ?ow215v) ?ow215h (by kernel_rfl) (by kernel_rfl) (by kernel_rfl) ?ow215q ?ow215y hHeld ?ow215r
              case ow215h => (simp only [List.getElem?_toArray, List.getElem?_cons_succ, List.getElem?_cons_zero]; rfl)
              case ow215q => exact fun _ _ _ h => h
              case ow215y => (refine Or.inl ⟨by first | kernel_rfl | rfl, ?_⟩; intro w hSw; (try dsimp only at hSw); obtain ⟨⟨x0, x1⟩, -⟩ := hSw; go_simp <;> (try with_reducible rfl))
              try simp only [Act.put, List.setIfInBounds_toArray, List.set_cons_zero, List.set_cons_succ]
              refine wpAnyH_take (i := 16) (oi := ?ow216o) (v := ?ow216v) ?ow216h (by kernel_rfl) (by kernel_rfl) (by kernel_rfl) ?ow216q ?ow216y hHeld ?ow216r
              case ow216h => (simp only [List.getElem?_toArray, List.getElem?_cons_succ, List.getElem?_cons_zero]; rfl)
              case ow216q => exact fun _ _ _ h => h
              case ow216y => (refine Or.inl ⟨by first | kernel_rfl | rfl, ?_⟩; intro w hSw; (try dsimp only at hSw); obtain ⟨⟨x0, x1⟩, -⟩ := hSw; go_simp <;> (try with_reducible rfl))
              try simp only [Act.put, List.setIfInBounds_toArray, List.set_cons_zero, List.set_cons_succ]
              refine wpAnyH_take (i := 17) (oi := ?ow217o) (v := ?ow217v) ?ow217h (by kernel_rfl) (by kernel_rfl) (by kernel_rfl) ?ow217q ?ow217y hHeld ?ow217r
              case ow217h => (simp only [List.getElem?_toArray, List.getElem?_cons_succ, List.getElem?_cons_zero]; rfl)
              case ow217q => exact fun _ _ _ h => h
              case ow217y => (refine Or.inl ⟨by first | kernel_rfl | rfl, ?_⟩; intro w hSw; (try dsimp only at hSw); obtain ⟨⟨x0, x1⟩, -⟩ := hSw; go_simp <;> (try with_reducible rfl))
              try simp only [Act.put, List.setIfInBounds_toArray, List.set_cons_zero, List.set_cons_succ]
              refine wpAnyH_take (i := 18) (oi := ?ow218o) (v := ?ow218v) ?ow218h (by kernel_rfl) (by kernel_rfl) (by kernel_rfl) ?ow218q ?ow218y hHeld ?ow218r
              case ow218h => (simp only [List.getElem?_toArray, List.getElem?_cons_succ, List.getElem?_cons_zero]; rfl)
              case ow218q => exact fun _ _ _ h => h
              case ow218y => (refine Or.inl ⟨by first | kernel_rfl | rfl, ?_⟩; intro w hSw; (try dsimp only at hSw); obtain ⟨⟨x0, x1⟩, -⟩ := hSw; go_simp <;> (try with_reducible rfl))
              try simp only [Act.put, List.setIfInBounds_toArray, List.set_cons_zero, List.set_cons_succ]
              refine wpAnyH_take (i := 19) (oi := ?ow219o) (v := ?ow219v) ?ow219h (by kernel_rfl) (by kernel_rfl) (by kernel_rfl) ?ow219q ?ow219y hHeld ?ow219r
              case ow219h => (simp only [List.getElem?_toArray, List.getElem?_cons_succ, List.getElem?_cons_zero]; rfl)
              case ow219q => exact fun _ _ _ h => h
              case ow219y => (refine Or.inl ⟨by first | kernel_rfl | rfl, ?_⟩; intro w hSw; (try dsimp only at hSw); obtain ⟨⟨x0, x1⟩, -⟩ := hSw; go_simp <;> (try with_reducible rfl))
              try simp only [Act.put, List.setIfInBounds_toArray, List.set_cons_zero, List.set_cons_succ]
              refine wpAnyH_take (i := 20) (oi := ?ow220o) (v := ?ow220v) ?ow220h (by kernel_rfl) (by kernel_rfl) (by kernel_rfl) ?ow220q ?ow220y hHeld ?ow220r
              case ow220h => (simp only [List.getElem?_toArray, List.getElem?_cons_succ, List.getElem?_cons_zero]; rfl)
              case ow220q => exact fun _ _ _ h => h
              case ow220y => (refine Or.inl ⟨by first | kernel_rfl | rfl, ?_⟩; intro w hSw; (try dsimp only at hSw); obtain ⟨⟨x0, x1⟩, -⟩ := hSw; go_simp <;> (try with_reducible rfl))
              try simp only [Act.put, List.setIfInBounds_toArray, List.set_cons_zero, List.set_cons_succ]
              refine wpAnyH_take (i := 21) (oi := ?ow221o) (v := ?ow221v) ?ow221h (by kernel_rfl) (by kernel_rfl) (by kernel_rfl) ?ow221q ?ow221y hHeld ?ow221r
              case ow221h => (simp only [List.getElem?_toArray, List.getElem?_cons_succ, List.getElem?_cons_zero]; rfl)
              case ow221q => exact fun _ _ _ h => h
              case ow221y => (refine Or.inl ⟨by first | kernel_rfl | rfl, ?_⟩; intro w hSw; (try dsimp only at hSw); obtain ⟨⟨x0, x1⟩, -⟩ := hSw; go_simp <;> (try with_reducible rfl))
              try simp only [Act.put, List.setIfInBounds_toArray, List.set_cons_zero, List.set_cons_succ]
              refine wpAnyH_take (i := 22) (oi := ?ow222o) (v := ?ow222v) ?ow222h (by kernel_rfl) (by kernel_rfl) (by kernel_rfl) ?ow222q ?ow222y hHeld ?ow222r
              case ow222h => (simp only [List.getElem?_toArray, List.getElem?_cons_succ, List.getElem?_cons_zero]; rfl)
              case ow222q => exact fun _ _ _ h => h
              case ow222y => (refine Or.inl ⟨by first | kernel_rfl | rfl, ?_⟩; intro w hSw; (try dsimp only at hSw); obtain ⟨⟨x0, x1⟩, -⟩ := hSw; go_simp <;> (try with_reducible rfl))
              try simp only [Act.put, List.setIfInBounds_toArray, List.set_cons_zero, List.set_cons_succ]
              refine wpAnyH_ready (rs := [15]) (by kernel_rfl) (by simp) ?_
              refine (AllReadyH.cons rfl (fun K hK => ?_) AllReadyH.nil)
              go_simp
              ((with_reducible refine kz.mono ?_); rintro e w30 ⟨rfl, hb30⟩; have H30 := Lib.hid (H20.out.drew.keep hb30))
              refine hK.out _ _ (hHeld.keep hb30) (fun hHeld => ?_)
              clear hK K
              try simp only [Act.put, List.setIfInBounds_toArray, List.set_cons_zero, List.set_cons_succ]
              refine wpAnyH_take (i := 23) (oi := ?ow223o) (v := ?ow223v) ?ow223h (by kernel_rfl) (by kernel_rfl) (by kernel_rfl) ?ow223q ?ow223y hHeld ?ow223r
              case ow223h => (simp only [List.getElem?_toArray, List.getElem?_cons_succ, List.getElem?_cons_zero]; rfl)
              case ow223q => exact fun _ _ _ h => h
              case ow223y => (refine Or.inl ⟨by first | kernel_rfl | rfl, ?_⟩; intro w hSw; (try dsimp only at hSw); obtain ⟨⟨x0, x1⟩, -⟩ := hSw; go_simp <;> (try with_reducible rfl))
              try simp only [Act.put, List.setIfInBounds_toArray, List.set_cons_zero, List.set_cons_succ]
              refine wpAnyH_take (i := 24) (oi := ?ow224o) (v := ?ow224v) ?ow224h (by kernel_rfl) (by kernel_rfl) (by kernel_rfl) ?ow224q ?ow224y hHeld ?ow224r
              case ow224h => (simp only [List.getElem?_toArray, List.getElem?_cons_succ, List.getElem?_cons_zero]; rfl)
              case ow224q => exact fun _ _ _ h => h
              case ow224y => (refine Or.inl ⟨by first | kernel_rfl | rfl, ?_⟩; intro w hSw; (try dsimp only at hSw); obtain ⟨⟨x0, x1⟩, -⟩ := hSw; go_simp <;> (try with_reducible rfl))
              try simp only [Act.put, List.setIfInBounds_toArray, List.set_cons_zero, List.set_cons_succ]
              refine wpAnyH_take (i := 25) (oi := ?ow225o) (v := ?ow225v) ?ow225h (by kernel_rfl) (by kernel_rfl) (by kernel_rfl) ?ow225q ?ow225y hHeld ?ow225r
              case ow225h => (simp only [List.getElem?_toArray, List.getElem?_cons_succ, List.getElem?_cons_zero]; rfl)
              case ow225q => exact fun _ _ _ h => h
              case ow225y => (refine Or.inl ⟨by first | kernel_rfl | rfl, ?_⟩; intro w hSw; (try dsimp only at hSw); obtain ⟨⟨x0, x1⟩, -⟩ := hSw; go_simp <;> (try with_reducible rfl))
              try simp only [Act.put, List.setIfInBounds_toArray, List.set_cons_zero, List.set_cons_succ]
              refine wpAnyH_take (i := 26) (oi := ?ow226o) (v := ?ow226v) ?ow226h (by kernel_rfl) (by kernel_rfl) (by kernel_rfl) ?ow226q ?ow226y hHeld ?ow226r
              case ow226h => (simp only [List.getElem?_toArray, List.getElem?_cons_succ, List.getElem?_cons_zero]; rfl)
              case ow226q => exact fun _ _ _ h => h
              case ow226y => (refine Or.inl ⟨by first | kernel_rfl | rfl, ?_⟩; intro w hSw; (try dsimp only at hSw); obtain ⟨⟨x0, x1⟩, -⟩ := hSw; go_simp <;> (try with_reducible rfl))
              try simp only [Act.put, List.setIfInBounds_toArray, List.set_cons_zero, List.set_cons_succ]
              refine wpAnyH_take (i := 27) (oi := ?ow227o) (v := ?ow227v) ?ow227h (by kernel_rfl) (by kernel_rfl) (by kernel_rfl) ?ow227q ?ow227y hHeld ?ow227r
              case ow227h => (simp only [List.getElem?_toArray, List.getElem?_cons_succ, List.getElem?_cons_zero]; rfl)
              case ow227q => exact fun _ _ _ h => h
              case ow227y => (refine Or.inl ⟨by first | kernel_rfl | rfl, ?_⟩; intro w hSw; (try dsimp only at hSw); obtain ⟨⟨x0, x1⟩, -⟩ := hSw; go_simp <;> (try with_reducible rfl))
              try simp only [Act.put, List.setIfInBounds_toArray, List.set_cons_zero, List.set_cons_succ]
              refine wpAnyH_ready (rs := [28]) (by kernel_rfl) (by simp) ?_
              refine (AllReadyH.cons rfl (fun K hK => ?_) AllReadyH.nil)
              go_simp
              ((have kt := take_is ba v16 T2 s w30 H30.out.two.a HA2.out.canon (by have := HF2.out.2.1; omega)); unfold Sp.v at kt; rw [hfe] at kt; (with_reducible refine kt.mono ?_); rintro e w31 ⟨T3, ⟨v31, rfl, hset31, hmv31⟩, hok31⟩; (obtain rfl : T3 = T2 := (HA2.out.take hok31).same HA2.out (fun x => ⟨fun h => h.1, fun h => ⟨h, h.2⟩⟩)); (rw [show changed T3 T3 = false from by simp [changed]]); (have H31 := Lib.hid (H30.out.moveA HTw.out hmv31 hset31)))
              refine hK.out _ _ (FK.mk (hHeld.at_.moves hmv31 HNE.out HNV16.out) H31.out.bel) (fun hHeld => ?_)
              clear hK K
              try simp only [Act.put, List.setIfInBounds_toArray, List.set_cons_zero, List.set_cons_succ]
              refine wpAnyH_take (i := 29) (oi := ?ow228o) (v := ?ow228v) ?ow228h (by kernel_rfl) (by kernel_rfl) (by kernel_rfl) ?ow228q ?ow228y hHeld ?ow228r
              case ow228h => (simp only [List.getElem?_toArray, List.getElem?_cons_succ, List.getElem?_cons_zero]; rfl)
              case ow228q => exact fun _ _ _ h => h
              case ow228y => (refine Or.inl ⟨by first | kernel_rfl | rfl, ?_⟩; intro w hSw; (try dsimp only at hSw); obtain ⟨⟨x0, x1⟩, -⟩ := hSw; go_simp <;> (try with_reducible rfl))
              try simp only [Act.put, List.setIfInBounds_toArray, List.set_cons_zero, List.set_cons_succ]
              refine wpAnyH_take (i := 30) (oi := ?ow229o) (v := ?ow229v) ?ow229h (by kernel_rfl) (by kernel_rfl) (by kernel_rfl) ?ow229q ?ow229y hHeld ?ow229r
              case ow229h => (simp only [List.getElem?_toArray, List.getElem?_cons_succ, List.getElem?_cons_zero]; rfl)
              case ow229q => exact fun _ _ _ h => h
              case ow229y => (refine Or.inl ⟨by first | kernel_rfl | rfl, ?_⟩; intro w hSw; (try dsimp only at hSw); obtain ⟨⟨x0, x1⟩, -⟩ := hSw; go_simp <;> (try with_reducible rfl))
              try simp only [Act.put, List.setIfInBounds_toArray, List.set_cons_zero, List.set_cons_succ]
              refine wpAnyH_take (i := 31) (oi := ?ow230o) (v := ?ow230v) ?ow230h (by kernel_rfl) (by kernel_rfl) (by kernel_rfl) ?ow230q ?ow230y hHeld ?ow230r
              case ow230h => (simp only [List.getElem?_toArray, List.getElem?_cons_succ, List.getElem?_cons_zero]; rfl)
              case ow230q => exact fun _ _ _ h => h
              case ow230y => (refine Or.inl ⟨by first | kernel_rfl | rfl, ?_⟩; intro w hSw; (try dsimp only at hSw); obtain ⟨⟨x0, x1⟩, -⟩ := hSw; go_simp <;> (try with_reducible rfl))
              try simp only [Act.put, List.setIfInBounds_toArray, List.set_cons_zero, List.set_cons_succ]
              refine wpAnyH_done (by kernel_rfl) ?_ _
              have hbel := hHeld.bel
              go_wp2
              go_ret
              first | exact ⟨rfl, hbel⟩ | exact ⟨by rfl, hbel⟩

theorem windowTakes.walk (a0 : Option Addr) (len cap : Nat) (o : OpI) (w : World) (hl : ArgOps w a0 len cap) (_ho : o.fits) (hT : Tab w) :
    Calls Tryd.prog 9 #[.slice a0 len cap, o.v] w fun e w' => e = .returned (.bool true) ∧ Below w.heap.size w w' := by
  by_cases h : 12 < len
  · exact takes_many a0 len cap 12 o w hl hT h rfl
  · exact takes_few a0 len cap len o w hl hT (by omega) rfl
end Go.Proofs.YtdkenokjdiamhaaDoor

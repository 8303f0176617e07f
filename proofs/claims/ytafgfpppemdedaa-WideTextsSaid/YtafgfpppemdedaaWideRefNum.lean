/- Contracts of the document's answer for layer 2: a number of digits, and digits put right. -/
import Derived.Test.YtafgfpppemdedaaWideRefArr
namespace Go.Proofs.Ytafgfpppemdedaa
open Go.RowKit Go.Proofs.Ytafgfpppemdedaa.Wd

theorem Arr.alloc {w : World} {b : Nat} {f : Nat → Int} (h : Arr w b f) (o : Obj) : Arr (w.alloc o) b f := by
  have hr := h.room
  intro i hi
  obtain ⟨h1, h2⟩ := h i hi
  exact ⟨by simp [go_sem, hr, h1], by simp [go_sem, hr, h2]⟩

set_option maxHeartbeats 1000000 in
theorem number_any (f : Nat → Int) (x y a : Int) (w : World) (hf : ∀ i, i < 16 → 0 ≤ f i ∧ f i ≤ 255) (C : Rep x y a) (E : Cong a (tailv f 16)) :
    Calls Try.prog 35 #[.agg (arrOf f)] w fun e w' => e = .returned (.agg #[.int .i64 (x), .int .u64 (y)]) ∧ Below w.heap.size w w' := by
  obtain ⟨e1, e2⟩ := rep_horn hf C E
  have h0 := horn_full (d := f) (o := 0) (fun i _ h2 => hf i (by omega))
  have h8 := horn_full (d := f) (o := 8) (fun i _ h2 => hf i (by omega))
  have hA := (Arr.new w f 44).alloc (.cells #[.int .i64 0, .int .u64 0] 24)
  have HA := Lib.hid hA
  have HF := Lib.hid hf
  have E1 := Lib.hid e1
  have E2 := Lib.hid e2
  have H0 := Lib.hid h0
  have H8 := Lib.hid h8
  clear hA hf e1 e2 h0 h8 C E
  go_enter Try.func35, Try.ntmps35
  go_wp2
  go_loop [3, 4, 5] (fun p q i => ∃ k : Nat, k ≤ 8 ∧ i = .int .i64 (k : Int) ∧ p = .int .u64 (horn f 0 k) ∧ q = .int .u64 (horn f 8 k)) (fun _ _ i => 8 - (intOf i).toNat)
  case atStart => exact ⟨0, by decide, rfl, rfl, rfl⟩
  case round =>
    obtain ⟨k, hk, rfl, rfl, rfl⟩ := hrel
    by_cases hlt : k < 8
    · have b1 := horn_small (d := f) (o := 0) (fun i _ h2 => HF.out i (by omega)) k hlt
      have b2 := horn_small (d := f) (o := 8) (fun i _ h2 => HF.out i (by omega)) k hlt
      have n1 : Hid (horn f 0 (k + 1) = horn f 0 k * 256 + f k) := by show _ = _; rw [horn, Nat.zero_add]
      have n2 : Hid (horn f 8 (k + 1) = horn f 8 k * 256 + f (8 + k)) := rfl
      have c1 := (HA.out k (by omega)).1
      have c2 := (HA.out (8 + k) (by omega)).1
      have r1 := HF.out k (by omega)
      have r2 := HF.out (8 + k) (by omega)
      generalize horn f 0 k = P at *
      generalize horn f 8 k = Q at *
      obtain ⟨u, hu⟩ : ∃ u, f k = u := ⟨_, rfl⟩
      obtain ⟨v, hv⟩ : ∃ v, f (8 + k) = v := ⟨_, rfl⟩
      rw [hu] at c1 r1 n1
      rw [hv] at c2 r2 n2
      clear hu hv
      have hk1 : (k : Int) < 8 := by omega
      have hk3 : ((8 : Int) + (k : Int)).toNat = 8 + k := by omega
      go_wp2
      go_round
      case rel => exact ⟨k + 1, by omega, by go_num, by rw [n1.out], by rw [n2.out]⟩
      case measure => simp [intOf]; omega
    · have e : k = 8 := by omega
      subst e
      clear hk hlt
      generalize horn f 0 8 = P at *
      generalize horn f 8 8 = Q at *
      have h0 := H0.out
      have h8 := H8.out
      go_wp2
      exact bodyPost_ret (v := .agg #[.int .i64 (wrap64 P), .int .u64 (Q)]) (by simp [results, Try.results35, go_sem]) rfl ⟨agg_eq (by rw [E1.out, wrap64_is]) E2.out, by (repeat (first | exact Below.refl _ _ | assumption | refine below_add ?_ _ | (refine below_on ?_ (by assumption)) | refine Below.drew ?_ | refine below_drewN ?_ _ | (refine Below.setCell ?_ (by simp; try omega) _) | (refine below_new ?_ _ (by simp; try omega)) | (refine below_next ?_ (by assumption) (by simp; try omega))))⟩

/-- The sixteen cells as they are loaded; stored in a row of the call's own, and read there. -/
theorem Arr.loadVar {w : World} {b : Nat} {f : Nat → Int} (h : Arr w b f) : (Go.loadVar 44 ⟨b, 0, none⟩).run Try.prog w = .ok (.agg (arrOf f)) w := by
  have := run_loadVar_mid (P := Try.prog) w b 0 44 (arrOf f).toList _ h.range Try.underlying44 rfl (by rw [infoA, Array.length_toList, arrOf_size])
  simpa using this
theorem below_setCells {B : Nat} {w0 : World} (b : Nat) (hb : B ≤ b) : ∀ (vs : List Value) (o : Nat) (w : World), Below B w0 w → Below B w0 (w.setCells b o vs)
  | [], _, _, h => h
  | v :: r, o, _, h => below_setCells b hb r (o + 1) _ (h.setCell hb v)
theorem Arr.stored16 {w : World} {b : Nat} {f0 : Nat → Int} (h : Arr w b f0) (f : Nat → Int) : Arr (w.setCells b 0 (arrOf f).toList) b f := by
  intro i hi
  refine ⟨?_, ?_⟩
  · have := World.cell?_setCells_in b (arrOf f).toList 0 w (fun j hj => by
      rw [Array.length_toList, arrOf_size] at hj
      rw [Nat.zero_add, (h j hj).1]; rfl) i (by rw [Array.length_toList, arrOf_size]; exact hi)
    rw [Nat.zero_add] at this
    rw [this]
    have e := arrOf_at f i hi
    rw [Array.getElem?_eq_getElem (by rw [arrOf_size]; exact hi)] at e
    simpa using e
  · rw [World.frozen?_setCells]; exact (h i hi).2
/-- The laws of the load and of the store, at these cells. -/
theorem wpList_load_arr {ops : Array Oper} {rest : List Oper} {op : Oper} {a : Act} {w : World} {Q : Exit → Act → World → Prop} {b : Nat} {f : Nat → Int} (h : Arr w b f) (hgd : op.guard = none) (x : Operand) (ho : op.op = .load 44 x)
    (hx : a.eval x = .pointer (some ⟨b, 0, none⟩)) (k : wpList Try.prog ops Q rest (a.put op.dst (.agg (arrOf f))) w) : wpList Try.prog ops Q (op :: rest) a w := by
  refine wpList_load_mid hgd 44 x ho b 0 hx (arrOf f).toList _ h.range Try.underlying44 rfl (by rw [infoA, Array.length_toList, arrOf_size]) ?_
  simpa using k
theorem wpList_store_arr {ops : Array Oper} {rest : List Oper} {op : Oper} {a : Act} {w : World} {Q : Exit → Act → World → Prop} {b : Nat} {f0 f : Nat → Int} (h : Arr w b f0) (hgd : op.guard = none) (x y : Operand) (ho : op.op = .store 44 x y)
    (hx : a.eval x = .pointer (some ⟨b, 0, none⟩)) (hy : a.eval y = .agg (arrOf f))
    (k : ∀ w', Arr w' b f → (∀ B w0, B ≤ b → Below B w0 w → Below B w0 w') → wpList Try.prog ops Q rest (a.put op.dst undef) w') : wpList Try.prog ops Q (op :: rest) a w := by
  refine wpList_store_mid hgd 44 x y ho b 0 (arrOf f) hx hy (fun j hj => ?_) (by rw [infoA, arrOf_size]) ?_ (k _ (h.stored16 f) fun B w0 hB hw => below_setCells b hB _ _ _ hw)
  · rw [arrOf_size] at hj
    rw [Nat.zero_add, (h j hj).1]
    exact ⟨rfl, (h j hj).2⟩
  · rw [Array.all_eq_true_iff_forall_mem]
    intro v hv
    unfold arrOf at hv
    simp at hv
    obtain ⟨i, _, rfl⟩ := hv
    rfl

/-- What the loop of carry has done: the last k digits are put right. -/
structure CarryRel (w wr : World) (b : Nat) (d : Nat → Int) (k : Nat) (c : Int) (g : Nat → Int) : Prop where
  arr : Arr wr b g
  out : Arr wr (b + 1) (fun _ => 0)
  sum : tailv d k = tailv g k + c * 256 ^ k
  old : ∀ i, i < 16 - k → g i = d i
  new : ∀ i, 16 - k ≤ i → i < 16 → 0 ≤ g i ∧ g i ≤ 255
  c0 : 0 ≤ c
  c1 : c ≤ 1099511627776
  below : Below w.heap.size w wr
  room : w.heap.size ≤ b

theorem CarryRel.next {w wr : World} {b k : Nat} {d g : Nat → Int} {c : Int} (R : CarryRel w wr b d k c g) (hk : k < 16) (hd : 0 ≤ d (15 - k) ∧ d (15 - k) ≤ 1099511627776) :
    CarryRel w (wr.setCell ⟨b, 15 - k, none⟩ (.int .i64 ((d (15 - k) + c) % 256))) b d (k + 1) ((d (15 - k) + c) / 256) (updI g (15 - k) ((d (15 - k) + c) % 256)) := by
  have h0 := R.c0
  have h1 := R.c1
  refine ⟨R.arr.stored (15 - k) (by omega) _, ?_, carry_step hk R.sum _ _ rfl rfl _ (by unfold updI; rw [if_pos rfl]) (fun i hi => by unfold updI; rw [if_neg hi]), fun i hi => ?_, fun i h2 h3 => ?_, by omega, by omega, R.below.setCell R.room _, R.room⟩
  · intro i hi
    obtain ⟨k1, k2⟩ := R.out i hi
    refine ⟨?_, by simp [go_sem, k2]⟩
    rw [World.cell?_setCell_other]
    · exact k1
    · intro e; have := congrArg Addr.block e; simp at this
  · unfold updI; rw [if_neg (by omega)]; exact R.old i (by omega)
  · unfold updI
    split
    · omega
    · exact R.new i (by omega) h3

set_option maxHeartbeats 1000000 in
theorem carry_any (d : Nat → Int) (w : World) (hd : ∀ i, i < 16 → 0 ≤ d i ∧ d i ≤ 1099511627776) :
    Calls Try.prog 36 #[.agg (arrOf d)] w fun e w' => ∃ g, e = .returned (.agg (arrOf g)) ∧ (∀ i, i < 16 → 0 ≤ g i ∧ g i ≤ 255) ∧ Cong (tailv d 16) (tailv g 16) ∧ Below w.heap.size w w' := by
  have hA := (Arr.new w d 44).alloc (.cells (arrOf fun _ => 0) 44)
  have hB := Arr.new (w.alloc (.cells (arrOf d) 44)) (fun _ => 0) 44
  have HD := Lib.hid hd
  have HA := Lib.hid hA
  have HB := Lib.hid hB
  clear hd hA hB
  go_enter Try.func36, Try.ntmps36
  go_wp2
  go_loopw [3, 4] (fun p i wr => ∃ (k : Nat) (c : Int) (g : Nat → Int), k ≤ 16 ∧ i = .int .i64 (15 - (k : Int)) ∧ p = .int .i64 c ∧ CarryRel w wr w.heap.size d k c g) (fun _ i _ => (intOf i + 1).toNat)
  case atStart => exact ⟨0, 0, d, by decide, rfl, rfl, HA.out, by have := HB.out; simp at this; exact this, by simp [tailv], fun _ _ => rfl, fun i h1 h2 => by omega, by decide, by decide, by (repeat (first | exact Below.refl _ _ | assumption | refine below_add ?_ _ | (refine below_on ?_ (by assumption)) | refine Below.drew ?_ | refine below_drewN ?_ _ | (refine Below.setCell ?_ (by simp; try omega) _) | (refine below_new ?_ _ (by simp; try omega)) | (refine below_next ?_ (by assumption) (by simp; try omega)))), Nat.le_refl _⟩
  case round =>
    obtain ⟨k, c, g, hk, rfl, rfl, R⟩ := hrel
    by_cases hlt : k < 16
    · have hold := R.old (15 - k) (by omega)
      have hc1 := (R.arr (15 - k) (by omega)).1
      have hc2 := (R.arr (15 - k) (by omega)).2
      rw [hold] at hc1
      have hdk := HD.out (15 - k) (by omega)
      have N := Lib.hid (R.next hlt hdk)
      have h0 := R.c0
      have h1 := R.c1
      obtain ⟨u, hu⟩ : ∃ u, d (15 - k) = u := ⟨_, rfl⟩
      rw [hu] at hc1 hdk N
      have HR := Lib.hid R
      clear R hold hu
      have hi1 : (15 - (k : Int)).toNat = 15 - k := by omega
      have hi2 : (0 : Int) ≤ 15 - (k : Int) := by omega
      have hi3 : (15 : Int) - (k : Int) < 16 := by omega
      go_wp2
      go_roundw
      case rel => exact ⟨k + 1, _, _, by omega, by go_num, rfl, N.out⟩
      case measure => simp [intOf]; omega
    · have e : k = 16 := by omega
      subst e
      have hr := R.room
      have hA1 := R.arr
      have hA2 := R.out
      have hb1 := R.below
      have hnew : Hid (∀ i, i < 16 → 0 ≤ g i ∧ g i ≤ 255) := fun i hi => R.new i (by omega) hi
      have hcong : Hid (Cong (tailv d 16) (tailv g 16)) := ⟨c, by
        have := R.sum
        have e : (256 : Int) ^ 16 = 340282366920938463463374607431768211456 := by decide
        rw [e] at this; exact this⟩
      clear R
      go_wp2_with (first
        | (refine wpList_load_arr hA1 rfl _ rfl rfl ?_)
        | (refine wpList_store_arr (f := g) hA2 rfl _ _ rfl rfl rfl ?_; intro w2 hA3 hB3))
      have k3 := hA3.loadVar
      exact bodyPost_ret (v := .agg (arrOf g)) (by simp [results, Try.results36, asAddr, Act.put, k3]) rfl ⟨g, rfl, hnew.out, hcong.out, hB3 _ _ (by omega) hb1⟩
end Go.Proofs.Ytafgfpppemdedaa

/- Contract: taken, what stands in bytes, part by part. -/
import Derived.Test.YtipjhlabcbkgjaaAggBytes
import Derived.Test.YtipjhlabcbkgjaaAggRMerge
import Derived.Laws.EntriesVeiled
import Derived.Deep.RegionHeld
set_option maxRecDepth 20000
namespace Go.Proofs.Ytipjhlabcbkgjaa.Ag
open Go.RowKit Go.Proofs.Ytipjhlabcbkgjaa Go.Proofs.Ytipjhlabcbkgjaa.Wd Go.Proofs.Ytipjhlabcbkgjaa.Vi Go.Proofs.Ytipjhlabcbkgjaa.Mk

def stN (r : ByteArray) (b : Bool) : Nat → ByteArray × Bool
  | 0 => (r, b)
  | k + 1 => (numQ (stN r b k).1 (stN r b k).2).2
def nmN (r : ByteArray) (b : Bool) (k : Nat) : Int := (numQ (stN r b k).1 (stN r b k).2).1
theorem stN_step (r : ByteArray) (b : Bool) (k : Nat) : numQ (stN r b k).1 (stN r b k).2 = (nmN r b k, (stN r b (k + 1)).1, (stN r b (k + 1)).2) := rfl
/-- What stands behind the sum: three numbers, a stamp, and the reader then. -/
def midQ (r : ByteArray) : Int × Int × Int × St × ByteArray × Bool :=
  let a := numQ r false
  let c := numQ a.2.1 a.2.2
  let e := numQ c.2.1 c.2.2
  let f := takeQ e.2.1 e.2.2
  (zag a.1, zag c.1, zag e.1, f.1, f.2.1, f.2.2)
theorem midQ_parts (r : ByteArray) : ∃ v1 r1 b1 v2 r2 b2 v3 r3 b3 a r4 b4, numQ r false = (v1, r1, b1) ∧ numQ r1 b1 = (v2, r2, b2) ∧ numQ r2 b2 = (v3, r3, b3) ∧ takeQ r3 b3 = (a, r4, b4) ∧ midQ r = (zag v1, zag v2, zag v3, a, r4, b4) := by
  obtain ⟨⟨v1, r1, b1⟩, h1⟩ : ∃ x, numQ r false = x := ⟨_, rfl⟩
  obtain ⟨⟨v2, r2, b2⟩, h2⟩ : ∃ x, numQ r1 b1 = x := ⟨_, rfl⟩
  obtain ⟨⟨v3, r3, b3⟩, h3⟩ : ∃ x, numQ r2 b2 = x := ⟨_, rfl⟩
  obtain ⟨⟨a, r4, b4⟩, h4⟩ : ∃ x, takeQ r3 b3 = x := ⟨_, rfl⟩
  exact ⟨v1, r1, b1, v2, r2, b2, v3, r3, b3, a, r4, b4, h1, h2, h3, h4, by unfold midQ; simp only [h1, h2, h3, h4]⟩
/-- What stands in S, part by part, whether it may be or not. -/
def takenA (S : ByteArray) : Ag :=
  let g := getR S.data.toList 0
  if g.1 = 0 ∨ (S.size : Int) - g.2.1 < 16 then Ag.zero else
  let m := midQ (S.extract (g.2.1.toNat + 16) S.size)
  ⟨w64 g.1, sm (tailv (sb (S.extract g.2.1.toNat (g.2.1.toNat + 16))) 16), m.1, m.2.1, m.2.2.1, m.2.2.2.1, fun i => w64 (nmN m.2.2.2.2.1 m.2.2.2.2.2 i)⟩
theorem numQ_inv {r r' : ByteArray} {b b' : Bool} {v : Int} (H : numQ r b = (v, r', b')) (h : b = true → r = ⟨#[]⟩) : (b' = true → r' = ⟨#[]⟩) ∧ r'.size ≤ r.size := by
  refine ⟨?_, (numQ_bounds H).2.2⟩
  unfold numQ at H
  split at H
  · rename_i hb; simp at H; obtain ⟨-, rfl, rfl⟩ := H; exact fun _ => h hb
  · split at H
    · simp at H; obtain ⟨-, rfl, rfl⟩ := H; exact fun _ => rfl
    · simp at H; obtain ⟨-, -, rfl⟩ := H; exact fun e => (by cases e)
theorem stN_inv (r : ByteArray) (b : Bool) (h : b = true → r = ⟨#[]⟩) : ∀ k, ((stN r b k).2 = true → (stN r b k).1 = ⟨#[]⟩) ∧ (stN r b k).1.size ≤ r.size
  | 0 => ⟨h, Nat.le_refl _⟩
  | k + 1 => by
    obtain ⟨i1, i2⟩ := stN_inv r b h k
    obtain ⟨j1, j2⟩ := numQ_inv (stN_step r b k) i1
    exact ⟨j1, by omega⟩
theorem AgW.but {w w' : World} {b d : Nat} {a : Ag} (h : AgW w b a) (k : But d w w') (hd : b ≠ d) : AgW w' b a :=
  ⟨⟨fun j v hv => (k.cell (p := ⟨b, 0 + j, none⟩) hd h.at_.room).trans (h.at_.r j v hv)⟩, fun j hj => ⟨by rw [k.cell (p := ⟨b, 0 + j, none⟩) hd h.at_.room]; exact (h.t j hj).1, (k.frozen (p := ⟨b, 0 + j, none⟩) hd h.at_.room).trans (h.t j hj).2⟩⟩
theorem RNum.but {w w' : World} {b d : Nat} {x y : Int} (h : RNum w b x y) (k : But d w w') (hd : b ≠ d) : RNum w' b x y :=
  ⟨(k.cell (p := ⟨b, 0, none⟩) hd h.room).trans h.c0, (k.cell (p := ⟨b, 1, none⟩) hd h.room).trans h.c1, (k.frozen (p := ⟨b, 0, none⟩) hd h.room).trans h.f0, (k.frozen (p := ⟨b, 1, none⟩) hd h.room).trans h.f1⟩
/-- The result's block, the sum's, and the reader. -/
structure TK (w : World) (b6 b8 : Nat) (s : Int) (r : ByteArray) (b : Bool) (W : World) : Prop where
  res : AgW W w.heap.size Ag.zero
  x : RNum W b6 (wh s) (wl s)
  ra : RA W b8 r b
  l6 : w.heap.size < b6
  l8 : b6 < b8
  bel : Below w.heap.size w W
theorem TK.but {w : World} {b6 b8 : Nat} {s : Int} {r : ByteArray} {b : Bool} {W W' : World} (h : TK w b6 b8 s r b W) {r' : ByteArray} {b' : Bool} (hr : RA W' b8 r' b') (k : But b8 W W') : TK w b6 b8 s r' b' W' :=
  ⟨h.res.but k (by have := h.l6; have := h.l8; omega), h.x.but k (by have := h.l8; omega), hr, h.l6, h.l8, h.bel.trans (k.below (by have := h.l6; have := h.l8; omega) (by have := h.res.at_.room; omega))⟩
theorem TK.keep {w : World} {b6 b8 : Nat} {s : Int} {r : ByteArray} {b : Bool} {W W' : World} (h : TK w b6 b8 s r b W) (k : Below W.heap.size W W') : TK w b6 b8 s r b W' :=
  ⟨h.res.below k, h.x.below k, h.ra.below k, h.l6, h.l8, bel_next h.bel k⟩
/-- The result's block, the reader, and the aggregate that is filled. -/
structure TL (w : World) (b8 b11 : Nat) (r : ByteArray) (b : Bool) (g : Ag) (W : World) : Prop where
  res : AgW W w.heap.size Ag.zero
  ra : RA W b8 r b
  g : AgW W b11 g
  l8 : w.heap.size < b8
  l11 : b8 < b11
  bel : Below w.heap.size w W
theorem TL.but {w : World} {b8 b11 : Nat} {r : ByteArray} {b : Bool} {g : Ag} {W W' : World} (h : TL w b8 b11 r b g W) {r' : ByteArray} {b' : Bool} (hr : RA W' b8 r' b') (k : But b8 W W') : TL w b8 b11 r' b' g W' :=
  ⟨h.res.but k (by have := h.l8; omega), hr, h.g.but k (by have := h.l11; omega), h.l8, h.l11, h.bel.trans (k.below (by have := h.l8; omega) (by have := h.res.at_.room; omega))⟩
theorem TL.put {w : World} {b8 b11 : Nat} {r : ByteArray} {b : Bool} {g : Ag} {W : World} (h : TL w b8 b11 r b g W) (k : Nat) (hk : k < 9) (n : Int) : TL w b8 b11 r b { g with b := setB g.b k n } (W.setCell ⟨b11, 9 + k, none⟩ (.int .i64 n)) :=
  have kb : Below b11 W (W.setCell ⟨b11, 9 + k, none⟩ (.int .i64 n)) := (Below.refl _ _).setCell (p := ⟨b11, 9 + k, none⟩) (Nat.le_refl _) _
  ⟨h.res.upto kb (by have := h.l8; have := h.l11; omega), h.ra.other _ _ (by show b11 ≠ b8; have := h.l11; omega), h.g.put_b k hk n, h.l8, h.l11, h.bel.trans (kb.mono (by have := h.l8; have := h.l11; omega))⟩
/-- As TK, with the aggregate's block once it is there. -/
structure TX (w : World) (b6 b8 : Nat) (s : Int) (r : ByteArray) (b : Bool) (o : Option Nat) (W : World) : Prop where
  tk : TK w b6 b8 s r b W
  g : ∀ d, o = some d → b8 < d ∧ AgW W d Ag.zero
theorem TX.but {w : World} {b6 b8 : Nat} {s : Int} {r : ByteArray} {b : Bool} {o : Option Nat} {W W' : World} (h : TX w b6 b8 s r b o W) {r' : ByteArray} {b' : Bool} (hr : RA W' b8 r' b') (k : But b8 W W') : TX w b6 b8 s r' b' o W' :=
  ⟨h.tk.but hr k, fun d hd => ⟨(h.g d hd).1, (h.g d hd).2.but k (by have := (h.g d hd).1; omega)⟩⟩
theorem TX.new {w : World} {b6 b8 : Nat} {s : Int} {r : ByteArray} {b : Bool} {o : Option Nat} {W : World} (h : TX w b6 b8 s r b o W) : ∃ x d, x = W.alloc (.cells #[.int .i64 0, .int .i64 0, .int .u64 0, .int .i64 0, .int .i64 0, .int .i64 0, .int .i64 0, .int .i64 0, .int .i64 0, .int .i64 0, .int .i64 0, .int .i64 0, .int .i64 0, .int .i64 0, .int .i64 0, .int .i64 0, .int .i64 0, .int .i64 0] 29) ∧ d = W.heap.size ∧ TX w b6 b8 s r b (some d) x :=
  ⟨_, _, rfl, rfl, h.tk.keep ((Below.refl W.heap.size W).alloc (Nat.le_refl _) _), fun d hd => by
    obtain rfl : W.heap.size = d := by injection hd
    exact ⟨h.tk.ra.room, AgW.zero W _⟩⟩
theorem TL.name {w : World} {b8 b11 : Nat} {r : ByteArray} {b : Bool} {g : Ag} {W : World} (h : TL w b8 b11 r b g W) : ∃ x, x = W ∧ TL w b8 b11 r b g x := ⟨W, rfl, h⟩
def gN (r : ByteArray) (b : Bool) (k : Nat) : Nat → Int := fun i => if i < k then w64 (nmN r b i) else 0
theorem gN_step (r : ByteArray) (b : Bool) (k : Nat) : setB (gN r b k) k (w64 (nmN r b k)) = gN r b (k + 1) := by
  funext i
  unfold setB gN
  by_cases h : i = k
  · subst h; rw [if_pos rfl, if_pos (by omega)]
  · rw [if_neg h]
    by_cases h2 : i < k
    · rw [if_pos h2, if_pos (by omega)]
    · rw [if_neg h2, if_neg (by omega)]
theorem TL.keep {w : World} {b8 b11 : Nat} {r : ByteArray} {b : Bool} {g : Ag} {W W' : World} (h : TL w b8 b11 r b g W) (k : Below W.heap.size W W') : TL w b8 b11 r b g W' :=
  ⟨h.res.below k, h.ra.below k, h.g.below k, h.l8, h.l11, bel_next h.bel k⟩
theorem gN_zero (r : ByteArray) (b : Bool) : gN r b 0 = fun _ => 0 := by
  funext i
  unfold gN
  rw [if_neg (by omega)]
theorem gN_nine (n s z1 z2 z3 : Int) (a : St) (r : ByteArray) (b : Bool) : agV ⟨n, s, z1, z2, z3, a, gN r b 9⟩ = agV ⟨n, s, z1, z2, z3, a, fun i => w64 (nmN r b i)⟩ := rfl
theorem RA.uptoT {w w' : World} {b B : Nat} {r : ByteArray} {br : Bool} (h : RA w b r br) (k : Below B w w') (hb : b < B) : RA w' b r br :=
  ⟨(k.cell (p := ⟨b, 0, none⟩) hb).trans h.c0, (k.cell (p := ⟨b, 1, none⟩) hb).trans h.c1, (k.frozen (p := ⟨b, 0, none⟩) hb).trans h.f0, (k.frozen (p := ⟨b, 1, none⟩) hb).trans h.f1⟩
theorem TX.fill {w : World} {b6 b8 d : Nat} {s : Int} {r : ByteArray} {b : Bool} {W : World} (h : TX w b6 b8 s r b (some d) W) (n z1 z2 z3 : Int) (a : St) : ∃ x, x = stA W d ⟨n, s, z1, z2, z3, a, fun _ => 0⟩ ∧ TL w b8 d r b ⟨n, s, z1, z2, z3, a, gN r b 0⟩ x := by
  obtain ⟨h1, h2⟩ := h.g d rfl
  have kb := stA_below ⟨n, s, z1, z2, z3, a, fun _ => 0⟩ (Below.refl d W) (Nat.le_refl _)
  refine ⟨_, rfl, h.tk.res.upto kb (by have := h.tk.l8; have := h.tk.l6; omega), RA.uptoT h.tk.ra kb h1, by rw [gN_zero]; exact h2.st _, by have := h.tk.l8; have := h.tk.l6; omega, h1, h.tk.bel.trans (kb.mono (by have := h.tk.l8; have := h.tk.l6; omega))⟩
theorem resW_name {w W : World} {b : Nat} {g : Ag} (h : AgW W b g) (hb : Below w.heap.size w W) : ∃ x, x = W ∧ AgW x b g ∧ Below w.heap.size w x := ⟨W, rfl, h, hb⟩
set_option maxHeartbeats 4000000 in
theorem taken_is (S : ByteArray) (w : World) (hs : S.size ≤ 1000) : Calls Try.prog 53 #[.string S] w fun e w' => e = .returned (agV (takenA S)) ∧ Below w.heap.size w w' := by
  have hmf := makeFunc_run
  obtain ⟨z, hz⟩ : ∃ z, takenA S = z := ⟨_, rfl⟩
  rw [hz]
  obtain ⟨⟨v, p, e0⟩, hg⟩ : ∃ x, getR S.data.toList 0 = x := ⟨_, rfl⟩
  have kg := fun W => get_is S 0 v p e0 W (by unfold maxLen; omega) (by decide) (by decide) (Lib.hid hg)
  have hvp : (v = 0 ∧ p = 0) ∨ ∃ u m : Nat, v = (u : Int) ∧ p = (m : Int) ∧ u < 18446744073709551616 ∧ m ≤ S.size := by
    rcases getR_of (a := 0) hg rfl with ⟨-, h1, h2, -⟩ | ⟨u, m, ho, h1, h2, -⟩
    · exact Or.inl ⟨h1, h2⟩
    · have hb := getL_bounds ho
      refine Or.inr ⟨u, m, h1, by rw [h2]; exact Int.zero_add _, hb.1, ?_⟩
      have hh := hb.2.2
      rw [List.drop_zero, Array.length_toList] at hh
      exact hh
  have hr0 := AgW.zero w 29
  have hrb := (Below.refl w.heap.size w).alloc (Nat.le_refl _) (.cells #[.int .i64 0, .int .i64 0, .int .u64 0, .int .i64 0, .int .i64 0, .int .i64 0, .int .i64 0, .int .i64 0, .int .i64 0, .int .i64 0, .int .i64 0, .int .i64 0, .int .i64 0, .int .i64 0, .int .i64 0, .int .i64 0, .int .i64 0, .int .i64 0] 29)
  have HR0 := Lib.hid (And.intro hr0 hrb)
  clear hr0 hrb
  by_cases hno : v = 0 ∨ (S.size : Int) - p < 16
  · obtain rfl : Ag.zero = z := by rw [← hz]; unfold takenA; rw [hg]; exact (if_pos hno).symm
    have hcase : (v == 0) = true ∨ ((v == 0) = false ∧ decide ((S.size : Int) - p < 16) = true) := by
      by_cases h0 : v = 0
      · exact Or.inl (by simpa using h0)
      · exact Or.inr ⟨by simpa using h0, decide_eq_true (by omega)⟩
    have hpb : 0 ≤ p ∧ p ≤ (S.size : Int) := by
      rcases hvp with ⟨-, h⟩ | ⟨u, m, -, h1, -, h2⟩
      · rw [h]; exact ⟨by decide, by omega⟩
      · rw [h1]; omega
    clear hvp
    have hws : IntKind.i64.wrap ((S.size : Int) - p) = (S.size : Int) - p := by rw [IntKind.wrap_i64]; omega
    clear hpb hno hz hg
    go_enter Try.func53, Try.ntmps53
    go_upto_region 1 with fail
    obtain ⟨w0, hw0, hr, hb⟩ := resW_name HR0.out.1 HR0.out.2
    rw [← hw0]
    have H0 := Lib.hid (And.intro hr hb)
    clear hw0 hr hb HR0
    rcases hcase with h0 | ⟨h0, h1⟩
    all_goals
      go_upto_region 3 with (go_at_call 76; (with_reducible refine (kg _).mono ?_); rintro e1 w1 ⟨rfl, rfl⟩)
      refine wp_region_lit ?_
      refine wpList_plain rfl fun K hK => ?_
      go_simp
      refine hK _ _ ?_
      clear hK K
      (try simp only [Act.put, List.setIfInBounds_toArray, List.set_cons_zero, List.set_cons_succ])
      refine list_store_ag rfl _ _ rfl w.heap.size Ag.zero Ag.zero rfl (by rw [agV_zero]; rfl) H0.out.1 ?_
      obtain ⟨w9, hw9, hfin, hbel⟩ := finM_name (H0.out.1.st Ag.zero).at_ (stA_below Ag.zero H0.out.2 (Nat.le_refl _))
      rw [← hw9]
      refine wpList_nil ?_
      go_wp2
      refine bodyPost_ret (v := agV Ag.zero) (results_ag Try.results53 _ _ w.heap.size _ rfl hfin) rfl ⟨rfl, hbel⟩
  · have h0 : v ≠ 0 := fun h => hno (Or.inl h)
    obtain ⟨u, m, rfl, rfl, hu, hm⟩ : ∃ u m : Nat, v = (u : Int) ∧ p = (m : Int) ∧ u < 18446744073709551616 ∧ m ≤ S.size := by
      rcases hvp with h | h
      · exact absurd h.1 h0
      · exact h
    have hm16 : m + 16 ≤ S.size := by omega
    obtain ⟨WS, hWS⟩ : ∃ x, S.extract m (m + 16) = x := ⟨_, rfl⟩
    obtain ⟨r, hr⟩ : ∃ x, S.extract (m + 16) S.size = x := ⟨_, rfl⟩
    obtain ⟨s, hss⟩ : ∃ x, sm (tailv (sb WS) 16) = x := ⟨_, rfl⟩
    have hws16 : WS.size = 16 := by rw [← hWS]; simp; omega
    have hsw : InW s := by rw [← hss]; exact sm_in _
    have hrs : r.size ≤ 1000 := by rw [← hr]; simp; omega
    have hs1 : ∀ W, (Instr.slice 9 (.string S) (some (.int .i64 (m : Int))) (some (.int .i64 ((m : Int) + 16))) none).run Try.prog W = .ok (.string WS) W := fun W => by
      rw [run_slice_string (P := Try.prog) W 9 S .i64 .i64 (m : Int) ((m : Int) + 16) Try.underlying9 (by omega) (by omega) (by omega), ← hWS]
      rfl
    have hs2 : ∀ W, (Instr.slice 9 (.string S) (some (.int .i64 ((m : Int) + 16))) none none).run Try.prog W = .ok (.string r) W := fun W => by
      rw [run_slice_string_l (P := Try.prog) W 9 S Try.underlying9 .i64 ((m : Int) + 16) (by omega) (by omega), ← hr]
      rfl
    have krd := fun W => wread_is WS (wh s) (wl s) 0 W (by show ReadIs _ _ _ _; unfold ReadIs; rw [if_pos hws16, hss]; exact ⟨wrep hsw, rfl⟩)
    obtain ⟨v1, r1, b1, v2, r2, b2, v3, r3, b3, a, r4, b4, q1, q2, q3, q4, hmid⟩ := midQ_parts r
    have i1 := numQ_inv q1 (fun e => by cases e)
    have i2 := numQ_inv q2 i1.1
    have i3 := numQ_inv q3 i2.1
    have i4 := takeQ_inv q4 i3.1
    have hmx : ∀ x : ByteArray, x.size ≤ 1000 → x.size ≤ maxLen := fun x h => by unfold maxLen; omega
    have g1 := fun b W h => int_is b r r1 false b1 v1 (zag v1) W (hmx _ hrs) (Lib.hid q1) (Lib.hid rfl) h
    have g2 := fun b W h => int_is b r1 r2 b1 b2 v2 (zag v2) W (hmx _ (by have := i1.2; omega)) (Lib.hid q2) (Lib.hid rfl) h
    have g3 := fun b W h => int_is b r2 r3 b2 b3 v3 (zag v3) W (hmx _ (by have := i1.2; have := i2.2; omega)) (Lib.hid q3) (Lib.hid rfl) h
    have g4 := fun b W h => take_is b r3 r4 b3 b4 a W (by have := i1.2; have := i2.2; have := i3.2; omega) (Lib.hid q4) i3.1 h
    have hst := stN_inv r4 b4 i4.1
    have hst4 : r4.size ≤ 1000 := by have := i1.2; have := i2.2; have := i3.2; have := i4.2; omega
    obtain ⟨z1, hz1⟩ : ∃ x, zag v1 = x := ⟨_, rfl⟩
    obtain ⟨z2, hz2⟩ : ∃ x, zag v2 = x := ⟨_, rfl⟩
    obtain ⟨z3, hz3⟩ : ∃ x, zag v3 = x := ⟨_, rfl⟩
    obtain ⟨un, hun⟩ : ∃ x, w64 (u : Int) = x := ⟨_, rfl⟩
    have hwu : IntKind.i64.wrap (u : Int) = un := hun
    rw [hz1] at g1
    rw [hz2] at g2
    rw [hz3] at g3
    have HZ := Lib.hid (show (⟨un, s, z1, z2, z3, a, fun i => w64 (nmN r4 b4 i)⟩ : Ag) = z by
      rw [← hz]
      unfold takenA
      rw [hg]
      dsimp only
      rw [if_neg hno, Int.toNat_natCast, hWS, hss, hr, hmid, hz1, hz2, hz3, hun])
    have HST := Lib.hid (And.intro hst hst4)
    have hv0 : ((u : Int) == 0) = false := by simpa using h0
    have hd16 : decide ((S.size : Int) - (m : Int) < 16) = false := decide_eq_false (by omega)
    have hws : IntKind.i64.wrap ((S.size : Int) - (m : Int)) = (S.size : Int) - (m : Int) := by rw [IntKind.wrap_i64]; omega
    have hwm : IntKind.i64.wrap ((m : Int) + 16) = (m : Int) + 16 := by rw [IntKind.wrap_i64]; omega
    clear hno hz hg hvp h0 hun hz1 hz2 hz3 q1 q2 q3 q4 i1 i2 i3 i4 hmid hst hst4 hws16 hsw hrs hmx hss
    go_enter Try.func53, Try.ntmps53
    go_upto_region 1 with fail
    obtain ⟨w0, hw0, hr, hb⟩ := resW_name HR0.out.1 HR0.out.2
    rw [← hw0]
    have H0 := Lib.hid (And.intro hr hb)
    clear hw0 hr hb HR0
    go_upto_region 4 with (go_at_call 76; (with_reducible refine (kg _).mono ?_); rintro e1 w1 ⟨rfl, rfl⟩)
    go_upto_region 6 with (first
      | (go_at_call 77; (with_reducible refine (krd _).mono ?_); rintro e1 w1 ⟨rfl, hb1⟩)
      | (go_at_call 78; (with_reducible refine (read_is _ _).mono ?_); rintro e2 w2 ⟨rfl, hra, hb2, hlt2⟩))
    have hs1 := hb1.size
    have hr0 := H0.out.1.at_.room
    have hT : TK w w1.heap.size (w1.heap.size + 1) s r false w2 := by
      rw [World.size_alloc] at hra hlt2
      exact ⟨(H0.out.1.below hb1).below ((Below.refl _ _).alloc (Nat.le_refl _) _) |>.below hb2, (RNum.new w1 (wh s) (wl s) 24).below hb2, hra, by omega, Nat.lt_succ_self _, bel_next (bel_new (bel_next H0.out.2 hb1) _) hb2⟩
    obtain ⟨b6, hb6⟩ : ∃ b, w1.heap.size = b := ⟨_, rfl⟩
    rw [hb6] at hT ⊢
    obtain ⟨b8, hb8⟩ : ∃ b, b6 + 1 = b := ⟨_, rfl⟩
    rw [hb8] at hT ⊢
    have HT := Lib.hid hT
    clear hT hb6 hb8 hra hb2 hlt2 hb1 hs1 hr0 H0 krd
    go_upto_region 7 with fail
    have CC := Lib.hid (show TX w b6 b8 s r false none w2.drew from ⟨HT.out.keep ((Below.refl _ _).drew), fun d hd => by cases hd⟩)
    clear HT
    refine wp_region_held_drew (S := (fun W => RNum W b6 (wh s) (wl s))) (by kernel_rfl) CC.out.tk.x (fun hHeld => ?_)
    generalize hwd : w2.drew = wd at CC hHeld ⊢
    clear hwd
    refine wpAnyH_take (i := 0) (oi := ?o1o) (v := ?o1v) ?o1h (by kernel_rfl) (by kernel_rfl) (by kernel_rfl) ?o1q ?o1y hHeld ?o1r
    case o1h => (simp only [List.getElem?_toArray, List.getElem?_cons_zero]; rfl)
    case o1q => exact fun _ _ _ h => h
    case o1y => (refine Or.inl ⟨by first | kernel_rfl | rfl, ?_⟩; intro w hSw; (try dsimp only at hSw); have y0 := hSw.c0; have y1 := hSw.c1; go_simp <;> (try with_reducible rfl))
    try simp only [Act.put, List.setIfInBounds_toArray, List.set_cons_zero, List.set_cons_succ]
    refine wpAnyH_take (i := 1) (oi := ?o2o) (v := ?o2v) ?o2h (by kernel_rfl) (by kernel_rfl) (by kernel_rfl) ?o2q ?o2y hHeld ?o2r
    case o2h => (simp only [List.getElem?_toArray, List.getElem?_cons_succ, List.getElem?_cons_zero]; rfl)
    case o2q => exact fun _ _ _ h => h
    case o2y => (refine Or.inl ⟨by first | kernel_rfl | rfl, ?_⟩; intro w hSw; (try dsimp only at hSw); have y0 := hSw.c0; have y1 := hSw.c1; go_simp <;> (try with_reducible rfl))
    try simp only [Act.put, List.setIfInBounds_toArray, List.set_cons_zero, List.set_cons_succ]
    refine wpAnyH_take (i := 2) (oi := ?o3o) (v := ?o3v) ?o3h (by kernel_rfl) (by kernel_rfl) (by kernel_rfl) ?o3q ?o3y hHeld ?o3r
    case o3h => (simp only [List.getElem?_toArray, List.getElem?_cons_succ, List.getElem?_cons_zero]; rfl)
    case o3q => exact fun _ _ _ h => h
    case o3y => (refine Or.inl ⟨by first | kernel_rfl | rfl, ?_⟩; intro w hSw; (try dsimp only at hSw); have y0 := hSw.c0; have y1 := hSw.c1; go_simp <;> (try with_reducible rfl))
    try simp only [Act.put, List.setIfInBounds_toArray, List.set_cons_zero, List.set_cons_succ]
    refine wpAnyH_take (i := 3) (oi := ?o4o) (v := ?o4v) ?o4h (by kernel_rfl) (by kernel_rfl) (by kernel_rfl) ?o4q ?o4y hHeld ?o4r
    case o4h => (simp only [List.getElem?_toArray, List.getElem?_cons_succ, List.getElem?_cons_zero]; rfl)
    case o4q => exact fun _ _ _ h => h
    case o4y => (refine Or.inl ⟨by first | kernel_rfl | rfl, ?_⟩; intro w hSw; (try dsimp only at hSw); have y0 := hSw.c0; have y1 := hSw.c1; go_simp <;> (try with_reducible rfl))
    try simp only [Act.put, List.setIfInBounds_toArray, List.set_cons_zero, List.set_cons_succ]
    refine wpAnyH_take (i := 5) (oi := ?o5o) (v := ?o5v) ?o5h (by kernel_rfl) (by kernel_rfl) (by kernel_rfl) ?o5q ?o5y hHeld ?o5r
    case o5h => (simp only [List.getElem?_toArray, List.getElem?_cons_succ, List.getElem?_cons_zero]; rfl)
    case o5q => exact fun _ _ _ h => h
    case o5y => (refine Or.inl ⟨by first | kernel_rfl | rfl, ?_⟩; intro w hSw; (try dsimp only at hSw); have y0 := hSw.c0; have y1 := hSw.c1; go_simp <;> (try with_reducible rfl))
    try simp only [Act.put, List.setIfInBounds_toArray, List.set_cons_zero, List.set_cons_succ]
    refine wpAnyH_take (i := 7) (oi := ?o6o) (v := ?o6v) ?o6h (by kernel_rfl) (by kernel_rfl) (by kernel_rfl) ?o6q ?o6y hHeld ?o6r
    case o6h => (simp only [List.getElem?_toArray, List.getElem?_cons_succ, List.getElem?_cons_zero]; rfl)
    case o6q => exact fun _ _ _ h => h
    case o6y => (refine Or.inl ⟨by first | kernel_rfl | rfl, ?_⟩; intro w hSw; (try dsimp only at hSw); have y0 := hSw.c0; have y1 := hSw.c1; go_simp <;> (try with_reducible rfl))
    try simp only [Act.put, List.setIfInBounds_toArray, List.set_cons_zero, List.set_cons_succ]
    refine wpAnyH_take (i := 9) (oi := ?o7o) (v := ?o7v) ?o7h (by kernel_rfl) (by kernel_rfl) (by kernel_rfl) ?o7q ?o7y hHeld ?o7r
    case o7h => (simp only [List.getElem?_toArray, List.getElem?_cons_succ, List.getElem?_cons_zero]; rfl)
    case o7q => exact fun _ _ _ h => h
    case o7y => (refine Or.inl ⟨by first | kernel_rfl | rfl, ?_⟩; intro w hSw; (try dsimp only at hSw); have y0 := hSw.c0; have y1 := hSw.c1; go_simp <;> (try with_reducible rfl))
    try simp only [Act.put, List.setIfInBounds_toArray, List.set_cons_zero, List.set_cons_succ]
    refine wpAnyH_ready (rs := [4, 12]) (by kernel_rfl) (by simp) ?_
    refine (AllReadyH.cons rfl (fun K hK => ?_) (AllReadyH.cons rfl (fun K hK => ?_) AllReadyH.nil))
    ·
      go_simp
      ((with_reducible refine (g1 _ _ CC.out.tk.ra).mono ?_); rintro e3 w3 ⟨rfl, hra, hbt⟩; (replace CC := Lib.hid (CC.out.but hra hbt)); clear hra hbt)
      refine hK.out _ _ (CC.out.tk.x) (fun hHeld => ?_)
      clear hK K
      try simp only [Act.put, List.setIfInBounds_toArray, List.set_cons_zero, List.set_cons_succ]
      refine wpAnyH_ready (rs := [6, 12]) (by kernel_rfl) (by simp) ?_
      refine (AllReadyH.cons rfl (fun K hK => ?_) (AllReadyH.cons rfl (fun K hK => ?_) AllReadyH.nil))
      ·
        go_simp
        ((with_reducible refine (g2 _ _ CC.out.tk.ra).mono ?_); rintro e3 w3 ⟨rfl, hra, hbt⟩; (replace CC := Lib.hid (CC.out.but hra hbt)); clear hra hbt)
        refine hK.out _ _ (CC.out.tk.x) (fun hHeld => ?_)
        clear hK K
        try simp only [Act.put, List.setIfInBounds_toArray, List.set_cons_zero, List.set_cons_succ]
        refine wpAnyH_ready (rs := [8, 12]) (by kernel_rfl) (by simp) ?_
        refine (AllReadyH.cons rfl (fun K hK => ?_) (AllReadyH.cons rfl (fun K hK => ?_) AllReadyH.nil))
        ·
          go_simp
          ((with_reducible refine (g3 _ _ CC.out.tk.ra).mono ?_); rintro e3 w3 ⟨rfl, hra, hbt⟩; (replace CC := Lib.hid (CC.out.but hra hbt)); clear hra hbt)
          refine hK.out _ _ (CC.out.tk.x) (fun hHeld => ?_)
          clear hK K
          try simp only [Act.put, List.setIfInBounds_toArray, List.set_cons_zero, List.set_cons_succ]
          refine wpAnyH_ready (rs := [10, 12]) (by kernel_rfl) (by simp) ?_
          refine (AllReadyH.cons rfl (fun K hK => ?_) (AllReadyH.cons rfl (fun K hK => ?_) AllReadyH.nil))
          ·
            go_simp
            ((with_reducible refine (g4 _ _ CC.out.tk.ra).mono ?_); rintro e3 w3 ⟨rfl, hra, hbt⟩; (replace CC := Lib.hid (CC.out.but hra hbt)); clear hra hbt)
            refine hK.out _ _ (CC.out.tk.x) (fun hHeld => ?_)
            clear hK K
            try simp only [Act.put, List.setIfInBounds_toArray, List.set_cons_zero, List.set_cons_succ]
            refine wpAnyH_take (i := 11) (oi := ?o8o) (v := ?o8v) ?o8h (by kernel_rfl) (by kernel_rfl) (by kernel_rfl) ?o8q ?o8y hHeld ?o8r
            case o8h => (simp only [List.getElem?_toArray, List.getElem?_cons_succ, List.getElem?_cons_zero]; rfl)
            case o8q => exact fun _ _ _ h => h
            case o8y => (refine Or.inl ⟨by first | kernel_rfl | rfl, ?_⟩; intro w hSw; (try dsimp only at hSw); have y0 := hSw.c0; have y1 := hSw.c1; go_simp <;> (try with_reducible rfl))
            try simp only [Act.put, List.setIfInBounds_toArray, List.set_cons_zero, List.set_cons_succ]
            refine wpAnyH_ready (rs := [12]) (by kernel_rfl) (by simp) ?_
            refine (AllReadyH.cons rfl (fun K hK => ?_) AllReadyH.nil)
            go_simp
            (obtain ⟨w4, d, hw4, hd4, C'⟩ := CC.out.new; (try rw [← hw4]); (try rw [← hd4]); (replace CC := Lib.hid C'); clear C' hw4 hd4)
            refine hK.out _ _ (CC.out.tk.x) (fun hHeld => ?_)
            clear hK K
            try simp only [Act.put, List.setIfInBounds_toArray, List.set_cons_zero, List.set_cons_succ]
            refine wpAnyH_ready (rs := [13]) (by kernel_rfl) (by simp) ?_
            refine (AllReadyH.cons rfl (fun K hK => ?_) AllReadyH.nil)
            refine (if_pos (by kernel_rfl)).mpr ?_
            refine store_ag _ _ rfl d Ag.zero ⟨un, s, z1, z2, z3, a, fun _ => 0⟩ rfl rfl (CC.out.g d rfl).2 ?_
            refine hK.out _ _ (CC.out.tk.x.upto (stA_below _ (Below.refl d _) (Nat.le_refl _)) (by have := (CC.out.g d rfl).1; have := CC.out.tk.l8; omega)) (fun hHeld => ?_)
            clear hK K
            try simp only [Act.put]
            refine wpAnyH_done (by kernel_rfl) ?_ _
            clear hHeld
            obtain ⟨w10, hw10, h10⟩ := CC.out.fill un z1 z2 z3 a
            rw [← hw10]
            have H9 := Lib.hid h10
            clear hw10 h10 CC g1 g2 g3 g4
            go_wp2_with fail
            go_loopw [12, 59] (fun _ i wr => ∃ k : Nat, i = .int .i64 (k : Int) ∧ k ≤ 9 ∧ TL w b8 d (stN r4 b4 k).1 (stN r4 b4 k).2 ⟨un, s, z1, z2, z3, a, gN r4 b4 k⟩ wr) (fun _ i _ => 9 - (intOf i).toNat)
            case atStart => exact ⟨0, rfl, by omega, H9.out⟩
            case round =>
              obtain ⟨k, rfl, hk, hQ⟩ := hrel
              have HQ := Lib.hid hQ
              clear hQ H9
              by_cases hk9 : k < 9
              · have hk9i : (k : Int) < 9 := by omega
                have hk0i : 0 ≤ (k : Int) := by omega
                have hwk : IntKind.i64.wrap ((k : Int) + 1) = (k : Int) + 1 := by rw [IntKind.wrap_i64]; omega
                obtain ⟨vk, hvk⟩ : ∃ x, nmN r4 b4 k = x := ⟨_, rfl⟩
                have hstep := stN_step r4 b4 k
                rw [hvk] at hstep
                have kn := fun W h => num_is b8 (stN r4 b4 k).1 (stN r4 b4 (k + 1)).1 (stN r4 b4 k).2 (stN r4 b4 (k + 1)).2 vk W (by have := (HST.out.1 k).2; have := HST.out.2; unfold maxLen; omega) (Lib.hid hstep) h
                clear hstep
                obtain ⟨wv, hwv⟩ : ∃ x, w64 vk = x := ⟨_, rfl⟩
                have hwvk : IntKind.i64.wrap vk = wv := hwv
                have HS := Lib.hid (show setB (gN r4 b4 k) k wv = gN r4 b4 (k + 1) by rw [← hwv, ← hvk]; exact gN_step r4 b4 k)
                clear hwv hvk
                go_wp2_with (go_at_call 80; (with_reducible refine (kn _ HQ.out.ra).mono ?_); rintro e5 w5 ⟨rfl, hra, hbt⟩; (have H5 := Lib.hid (HQ.out.but hra hbt)); (have s1 := (AgL.of H5.out.g).cell (9 + k) (List.getElem?_eq_getElem (by rw [show (cells18 _).length = 18 from rfl]; omega))); (have s2 := (AgL.of H5.out.g).free (9 + k) (by omega)); clear hra hbt)
                have h := H5.out.put k hk9 wv
                dsimp only at h
                rw [HS.out] at h
                exact ⟨⟨k + 1, rfl, by omega, h⟩, by simp [intOf]; omega⟩
              · have hk' : k = 9 := by omega
                subst hk'
                go_upto_region 13 with fail
                refine wp_region_lit ?_
                refine list_load_ag rfl _ rfl d _ rfl HQ.out.g.at_ ?_
                refine list_store_ag rfl _ _ rfl w.heap.size Ag.zero _ rfl rfl HQ.out.res ?_
                obtain ⟨w9, hw9, hfin, hbel⟩ := finM_name (HQ.out.res.st ⟨un, s, z1, z2, z3, a, gN r4 b4 9⟩).at_ (stA_below ⟨un, s, z1, z2, z3, a, gN r4 b4 9⟩ HQ.out.bel (by omega))
                rw [← hw9]
                refine wpList_nil ?_
                go_wp2
                refine bodyPost_ret (v := agV ⟨un, s, z1, z2, z3, a, gN r4 b4 9⟩) (results_ag Try.results53 _ _ w.heap.size _ rfl hfin) rfl ⟨?_, hbel⟩
                rw [gN_nine, HZ.out]
          ·
            go_simp
            (obtain ⟨w4, d, hw4, hd4, C'⟩ := CC.out.new; (try rw [← hw4]); (try rw [← hd4]); (replace CC := Lib.hid C'); clear C' hw4 hd4)
            refine hK.out _ _ (CC.out.tk.x) (fun hHeld => ?_)
            clear hK K
            try simp only [Act.put, List.setIfInBounds_toArray, List.set_cons_zero, List.set_cons_succ]
            refine wpAnyH_ready (rs := [10]) (by kernel_rfl) (by simp) ?_
            refine (AllReadyH.cons rfl (fun K hK => ?_) AllReadyH.nil)
            go_simp
            ((with_reducible refine (g4 _ _ CC.out.tk.ra).mono ?_); rintro e3 w3 ⟨rfl, hra, hbt⟩; (replace CC := Lib.hid (CC.out.but hra hbt)); clear hra hbt)
            refine hK.out _ _ (CC.out.tk.x) (fun hHeld => ?_)
            clear hK K
            try simp only [Act.put, List.setIfInBounds_toArray, List.set_cons_zero, List.set_cons_succ]
            refine wpAnyH_take (i := 11) (oi := ?o9o) (v := ?o9v) ?o9h (by kernel_rfl) (by kernel_rfl) (by kernel_rfl) ?o9q ?o9y hHeld ?o9r
            case o9h => (simp only [List.getElem?_toArray, List.getElem?_cons_succ, List.getElem?_cons_zero]; rfl)
            case o9q => exact fun _ _ _ h => h
            case o9y => (refine Or.inl ⟨by first | kernel_rfl | rfl, ?_⟩; intro w hSw; (try dsimp only at hSw); have y0 := hSw.c0; have y1 := hSw.c1; go_simp <;> (try with_reducible rfl))
            try simp only [Act.put, List.setIfInBounds_toArray, List.set_cons_zero, List.set_cons_succ]
            refine wpAnyH_ready (rs := [13]) (by kernel_rfl) (by simp) ?_
            refine (AllReadyH.cons rfl (fun K hK => ?_) AllReadyH.nil)
            refine (if_pos (by kernel_rfl)).mpr ?_
            refine store_ag _ _ rfl d Ag.zero ⟨un, s, z1, z2, z3, a, fun _ => 0⟩ rfl rfl (CC.out.g d rfl).2 ?_
            refine hK.out _ _ (CC.out.tk.x.upto (stA_below _ (Below.refl d _) (Nat.le_refl _)) (by have := (CC.out.g d rfl).1; have := CC.out.tk.l8; omega)) (fun hHeld => ?_)
            clear hK K
            try simp only [Act.put]
            refine wpAnyH_done (by kernel_rfl) ?_ _
            clear hHeld
            obtain ⟨w10, hw10, h10⟩ := CC.out.fill un z1 z2 z3 a
            rw [← hw10]
            have H9 := Lib.hid h10
            clear hw10 h10 CC g1 g2 g3 g4
            go_wp2_with fail
            go_loopw [12, 59] (fun _ i wr => ∃ k : Nat, i = .int .i64 (k : Int) ∧ k ≤ 9 ∧ TL w b8 d (stN r4 b4 k).1 (stN r4 b4 k).2 ⟨un, s, z1, z2, z3, a, gN r4 b4 k⟩ wr) (fun _ i _ => 9 - (intOf i).toNat)
            case atStart => exact ⟨0, rfl, by omega, H9.out⟩
            case round =>
              obtain ⟨k, rfl, hk, hQ⟩ := hrel
              have HQ := Lib.hid hQ
              clear hQ H9
              by_cases hk9 : k < 9
              · have hk9i : (k : Int) < 9 := by omega
                have hk0i : 0 ≤ (k : Int) := by omega
                have hwk : IntKind.i64.wrap ((k : Int) + 1) = (k : Int) + 1 := by rw [IntKind.wrap_i64]; omega
                obtain ⟨vk, hvk⟩ : ∃ x, nmN r4 b4 k = x := ⟨_, rfl⟩
                have hstep := stN_step r4 b4 k
                rw [hvk] at hstep
                have kn := fun W h => num_is b8 (stN r4 b4 k).1 (stN r4 b4 (k + 1)).1 (stN r4 b4 k).2 (stN r4 b4 (k + 1)).2 vk W (by have := (HST.out.1 k).2; have := HST.out.2; unfold maxLen; omega) (Lib.hid hstep) h
                clear hstep
                obtain ⟨wv, hwv⟩ : ∃ x, w64 vk = x := ⟨_, rfl⟩
                have hwvk : IntKind.i64.wrap vk = wv := hwv
                have HS := Lib.hid (show setB (gN r4 b4 k) k wv = gN r4 b4 (k + 1) by rw [← hwv, ← hvk]; exact gN_step r4 b4 k)
                clear hwv hvk
                go_wp2_with (go_at_call 80; (with_reducible refine (kn _ HQ.out.ra).mono ?_); rintro e5 w5 ⟨rfl, hra, hbt⟩; (have H5 := Lib.hid (HQ.out.but hra hbt)); (have s1 := (AgL.of H5.out.g).cell (9 + k) (List.getElem?_eq_getElem (by rw [show (cells18 _).length = 18 from rfl]; omega))); (have s2 := (AgL.of H5.out.g).free (9 + k) (by omega)); clear hra hbt)
                have h := H5.out.put k hk9 wv
                dsimp only at h
                rw [HS.out] at h
                exact ⟨⟨k + 1, rfl, by omega, h⟩, by simp [intOf]; omega⟩
              · have hk' : k = 9 := by omega
                subst hk'
                go_upto_region 13 with fail
                refine wp_region_lit ?_
                refine list_load_ag rfl _ rfl d _ rfl HQ.out.g.at_ ?_
                refine list_store_ag rfl _ _ rfl w.heap.size Ag.zero _ rfl rfl HQ.out.res ?_
                obtain ⟨w9, hw9, hfin, hbel⟩ := finM_name (HQ.out.res.st ⟨un, s, z1, z2, z3, a, gN r4 b4 9⟩).at_ (stA_below ⟨un, s, z1, z2, z3, a, gN r4 b4 9⟩ HQ.out.bel (by omega))
                rw [← hw9]
                refine wpList_nil ?_
                go_wp2
                refine bodyPost_ret (v := agV ⟨un, s, z1, z2, z3, a, gN r4 b4 9⟩) (results_ag Try.results53 _ _ w.heap.size _ rfl hfin) rfl ⟨?_, hbel⟩
                rw [gN_nine, HZ.out]
        ·
          go_simp
          (obtain ⟨w4, d, hw4, hd4, C'⟩ := CC.out.new; (try rw [← hw4]); (try rw [← hd4]); (replace CC := Lib.hid C'); clear C' hw4 hd4)
          refine hK.out _ _ (CC.out.tk.x) (fun hHeld => ?_)
          clear hK K
          try simp only [Act.put, List.setIfInBounds_toArray, List.set_cons_zero, List.set_cons_succ]
          refine wpAnyH_ready (rs := [8]) (by kernel_rfl) (by simp) ?_
          refine (AllReadyH.cons rfl (fun K hK => ?_) AllReadyH.nil)
          go_simp
          ((with_reducible refine (g3 _ _ CC.out.tk.ra).mono ?_); rintro e3 w3 ⟨rfl, hra, hbt⟩; (replace CC := Lib.hid (CC.out.but hra hbt)); clear hra hbt)
          refine hK.out _ _ (CC.out.tk.x) (fun hHeld => ?_)
          clear hK K
          try simp only [Act.put, List.setIfInBounds_toArray, List.set_cons_zero, List.set_cons_succ]
          refine wpAnyH_ready (rs := [10]) (by kernel_rfl) (by simp) ?_
          refine (AllReadyH.cons rfl (fun K hK => ?_) AllReadyH.nil)
          go_simp
          ((with_reducible refine (g4 _ _ CC.out.tk.ra).mono ?_); rintro e3 w3 ⟨rfl, hra, hbt⟩; (replace CC := Lib.hid (CC.out.but hra hbt)); clear hra hbt)
          refine hK.out _ _ (CC.out.tk.x) (fun hHeld => ?_)
          clear hK K
          try simp only [Act.put, List.setIfInBounds_toArray, List.set_cons_zero, List.set_cons_succ]
          refine wpAnyH_take (i := 11) (oi := ?o10o) (v := ?o10v) ?o10h (by kernel_rfl) (by kernel_rfl) (by kernel_rfl) ?o10q ?o10y hHeld ?o10r
          case o10h => (simp only [List.getElem?_toArray, List.getElem?_cons_succ, List.getElem?_cons_zero]; rfl)
          case o10q => exact fun _ _ _ h => h
          case o10y => (refine Or.inl ⟨by first | kernel_rfl | rfl, ?_⟩; intro w hSw; (try dsimp only at hSw); have y0 := hSw.c0; have y1 := hSw.c1; go_simp <;> (try with_reducible rfl))
          try simp only [Act.put, List.setIfInBounds_toArray, List.set_cons_zero, List.set_cons_succ]
          refine wpAnyH_ready (rs := [13]) (by kernel_rfl) (by simp) ?_
          refine (AllReadyH.cons rfl (fun K hK => ?_) AllReadyH.nil)
          refine (if_pos (by kernel_rfl)).mpr ?_
          refine store_ag _ _ rfl d Ag.zero ⟨un, s, z1, z2, z3, a, fun _ => 0⟩ rfl rfl (CC.out.g d rfl).2 ?_
          refine hK.out _ _ (CC.out.tk.x.upto (stA_below _ (Below.refl d _) (Nat.le_refl _)) (by have := (CC.out.g d rfl).1; have := CC.out.tk.l8; omega)) (fun hHeld => ?_)
          clear hK K
          try simp only [Act.put]
          refine wpAnyH_done (by kernel_rfl) ?_ _
          clear hHeld
          obtain ⟨w10, hw10, h10⟩ := CC.out.fill un z1 z2 z3 a
          rw [← hw10]
          have H9 := Lib.hid h10
          clear hw10 h10 CC g1 g2 g3 g4
          go_wp2_with fail
          go_loopw [12, 59] (fun _ i wr => ∃ k : Nat, i = .int .i64 (k : Int) ∧ k ≤ 9 ∧ TL w b8 d (stN r4 b4 k).1 (stN r4 b4 k).2 ⟨un, s, z1, z2, z3, a, gN r4 b4 k⟩ wr) (fun _ i _ => 9 - (intOf i).toNat)
          case atStart => exact ⟨0, rfl, by omega, H9.out⟩
          case round =>
            obtain ⟨k, rfl, hk, hQ⟩ := hrel
            have HQ := Lib.hid hQ
            clear hQ H9
            by_cases hk9 : k < 9
            · have hk9i : (k : Int) < 9 := by omega
              have hk0i : 0 ≤ (k : Int) := by omega
              have hwk : IntKind.i64.wrap ((k : Int) + 1) = (k : Int) + 1 := by rw [IntKind.wrap_i64]; omega
              obtain ⟨vk, hvk⟩ : ∃ x, nmN r4 b4 k = x := ⟨_, rfl⟩
              have hstep := stN_step r4 b4 k
              rw [hvk] at hstep
              have kn := fun W h => num_is b8 (stN r4 b4 k).1 (stN r4 b4 (k + 1)).1 (stN r4 b4 k).2 (stN r4 b4 (k + 1)).2 vk W (by have := (HST.out.1 k).2; have := HST.out.2; unfold maxLen; omega) (Lib.hid hstep) h
              clear hstep
              obtain ⟨wv, hwv⟩ : ∃ x, w64 vk = x := ⟨_, rfl⟩
              have hwvk : IntKind.i64.wrap vk = wv := hwv
              have HS := Lib.hid (show setB (gN r4 b4 k) k wv = gN r4 b4 (k + 1) by rw [← hwv, ← hvk]; exact gN_step r4 b4 k)
              clear hwv hvk
              go_wp2_with (go_at_call 80; (with_reducible refine (kn _ HQ.out.ra).mono ?_); rintro e5 w5 ⟨rfl, hra, hbt⟩; (have H5 := Lib.hid (HQ.out.but hra hbt)); (have s1 := (AgL.of H5.out.g).cell (9 + k) (List.getElem?_eq_getElem (by rw [show (cells18 _).length = 18 from rfl]; omega))); (have s2 := (AgL.of H5.out.g).free (9 + k) (by omega)); clear hra hbt)
              have h := H5.out.put k hk9 wv
              dsimp only at h
              rw [HS.out] at h
              exact ⟨⟨k + 1, rfl, by omega, h⟩, by simp [intOf]; omega⟩
            · have hk' : k = 9 := by omega
              subst hk'
              go_upto_region 13 with fail
              refine wp_region_lit ?_
              refine list_load_ag rfl _ rfl d _ rfl HQ.out.g.at_ ?_
              refine list_store_ag rfl _ _ rfl w.heap.size Ag.zero _ rfl rfl HQ.out.res ?_
              obtain ⟨w9, hw9, hfin, hbel⟩ := finM_name (HQ.out.res.st ⟨un, s, z1, z2, z3, a, gN r4 b4 9⟩).at_ (stA_below ⟨un, s, z1, z2, z3, a, gN r4 b4 9⟩ HQ.out.bel (by omega))
              rw [← hw9]
              refine wpList_nil ?_
              go_wp2
              refine bodyPost_ret (v := agV ⟨un, s, z1, z2, z3, a, gN r4 b4 9⟩) (results_ag Try.results53 _ _ w.heap.size _ rfl hfin) rfl ⟨?_, hbel⟩
              rw [gN_nine, HZ.out]
      ·
        go_simp
        (obtain ⟨w4, d, hw4, hd4, C'⟩ := CC.out.new; (try rw [← hw4]); (try rw [← hd4]); (replace CC := Lib.hid C'); clear C' hw4 hd4)
        refine hK.out _ _ (CC.out.tk.x) (fun hHeld => ?_)
        clear hK K
        try simp only [Act.put, List.setIfInBounds_toArray, List.set_cons_zero, List.set_cons_succ]
        refine wpAnyH_ready (rs := [6]) (by kernel_rfl) (by simp) ?_
        refine (AllReadyH.cons rfl (fun K hK => ?_) AllReadyH.nil)
        go_simp
        ((with_reducible refine (g2 _ _ CC.out.tk.ra).mono ?_); rintro e3 w3 ⟨rfl, hra, hbt⟩; (replace CC := Lib.hid (CC.out.but hra hbt)); clear hra hbt)
        refine hK.out _ _ (CC.out.tk.x) (fun hHeld => ?_)
        clear hK K
        try simp only [Act.put, List.setIfInBounds_toArray, List.set_cons_zero, List.set_cons_succ]
        refine wpAnyH_ready (rs := [8]) (by kernel_rfl) (by simp) ?_
        refine (AllReadyH.cons rfl (fun K hK => ?_) AllReadyH.nil)
        go_simp
        ((with_reducible refine (g3 _ _ CC.out.tk.ra).mono ?_); rintro e3 w3 ⟨rfl, hra, hbt⟩; (replace CC := Lib.hid (CC.out.but hra hbt)); clear hra hbt)
        refine hK.out _ _ (CC.out.tk.x) (fun hHeld => ?_)
        clear hK K
        try simp only [Act.put, List.setIfInBounds_toArray, List.set_cons_zero, List.set_cons_succ]
        refine wpAnyH_ready (rs := [10]) (by kernel_rfl) (by simp) ?_
        refine (AllReadyH.cons rfl (fun K hK => ?_) AllReadyH.nil)
        go_simp
        ((with_reducible refine (g4 _ _ CC.out.tk.ra).mono ?_); rintro e3 w3 ⟨rfl, hra, hbt⟩; (replace CC := Lib.hid (CC.out.but hra hbt)); clear hra hbt)
        refine hK.out _ _ (CC.out.tk.x) (fun hHeld => ?_)
        clear hK K
        try simp only [Act.put, List.setIfInBounds_toArray, List.set_cons_zero, List.set_cons_succ]
        refine wpAnyH_take (i := 11) (oi := ?o11o) (v := ?o11v) ?o11h (by kernel_rfl) (by kernel_rfl) (by kernel_rfl) ?o11q ?o11y hHeld ?o11r
        case o11h => (simp only [List.getElem?_toArray, List.getElem?_cons_succ, List.getElem?_cons_zero]; rfl)
        case o11q => exact fun _ _ _ h => h
        case o11y => (refine Or.inl ⟨by first | kernel_rfl | rfl, ?_⟩; intro w hSw; (try dsimp only at hSw); have y0 := hSw.c0; have y1 := hSw.c1; go_simp <;> (try with_reducible rfl))
        try simp only [Act.put, List.setIfInBounds_toArray, List.set_cons_zero, List.set_cons_succ]
        refine wpAnyH_ready (rs := [13]) (by kernel_rfl) (by simp) ?_
        refine (AllReadyH.cons rfl (fun K hK => ?_) AllReadyH.nil)
        refine (if_pos (by kernel_rfl)).mpr ?_
        refine store_ag _ _ rfl d Ag.zero ⟨un, s, z1, z2, z3, a, fun _ => 0⟩ rfl rfl (CC.out.g d rfl).2 ?_
        refine hK.out _ _ (CC.out.tk.x.upto (stA_below _ (Below.refl d _) (Nat.le_refl _)) (by have := (CC.out.g d rfl).1; have := CC.out.tk.l8; omega)) (fun hHeld => ?_)
        clear hK K
        try simp only [Act.put]
        refine wpAnyH_done (by kernel_rfl) ?_ _
        clear hHeld
        obtain ⟨w10, hw10, h10⟩ := CC.out.fill un z1 z2 z3 a
        rw [← hw10]
        have H9 := Lib.hid h10
        clear hw10 h10 CC g1 g2 g3 g4
        go_wp2_with fail
        go_loopw [12, 59] (fun _ i wr => ∃ k : Nat, i = .int .i64 (k : Int) ∧ k ≤ 9 ∧ TL w b8 d (stN r4 b4 k).1 (stN r4 b4 k).2 ⟨un, s, z1, z2, z3, a, gN r4 b4 k⟩ wr) (fun _ i _ => 9 - (intOf i).toNat)
        case atStart => exact ⟨0, rfl, by omega, H9.out⟩
        case round =>
          obtain ⟨k, rfl, hk, hQ⟩ := hrel
          have HQ := Lib.hid hQ
          clear hQ H9
          by_cases hk9 : k < 9
          · have hk9i : (k : Int) < 9 := by omega
            have hk0i : 0 ≤ (k : Int) := by omega
            have hwk : IntKind.i64.wrap ((k : Int) + 1) = (k : Int) + 1 := by rw [IntKind.wrap_i64]; omega
            obtain ⟨vk, hvk⟩ : ∃ x, nmN r4 b4 k = x := ⟨_, rfl⟩
            have hstep := stN_step r4 b4 k
            rw [hvk] at hstep
            have kn := fun W h => num_is b8 (stN r4 b4 k).1 (stN r4 b4 (k + 1)).1 (stN r4 b4 k).2 (stN r4 b4 (k + 1)).2 vk W (by have := (HST.out.1 k).2; have := HST.out.2; unfold maxLen; omega) (Lib.hid hstep) h
            clear hstep
            obtain ⟨wv, hwv⟩ : ∃ x, w64 vk = x := ⟨_, rfl⟩
            have hwvk : IntKind.i64.wrap vk = wv := hwv
            have HS := Lib.hid (show setB (gN r4 b4 k) k wv = gN r4 b4 (k + 1) by rw [← hwv, ← hvk]; exact gN_step r4 b4 k)
            clear hwv hvk
            go_wp2_with (go_at_call 80; (with_reducible refine (kn _ HQ.out.ra).mono ?_); rintro e5 w5 ⟨rfl, hra, hbt⟩; (have H5 := Lib.hid (HQ.out.but hra hbt)); (have s1 := (AgL.of H5.out.g).cell (9 + k) (List.getElem?_eq_getElem (by rw [show (cells18 _).length = 18 from rfl]; omega))); (have s2 := (AgL.of H5.out.g).free (9 + k) (by omega)); clear hra hbt)
            have h := H5.out.put k hk9 wv
            dsimp only at h
            rw [HS.out] at h
            exact ⟨⟨k + 1, rfl, by omega, h⟩, by simp [intOf]; omega⟩
          · have hk' : k = 9 := by omega
            subst hk'
            go_upto_region 13 with fail
            refine wp_region_lit ?_
            refine list_load_ag rfl _ rfl d _ rfl HQ.out.g.at_ ?_
            refine list_store_ag rfl _ _ rfl w.heap.size Ag.zero _ rfl rfl HQ.out.res ?_
            obtain ⟨w9, hw9, hfin, hbel⟩ := finM_name (HQ.out.res.st ⟨un, s, z1, z2, z3, a, gN r4 b4 9⟩).at_ (stA_below ⟨un, s, z1, z2, z3, a, gN r4 b4 9⟩ HQ.out.bel (by omega))
            rw [← hw9]
            refine wpList_nil ?_
            go_wp2
            refine bodyPost_ret (v := agV ⟨un, s, z1, z2, z3, a, gN r4 b4 9⟩) (results_ag Try.results53 _ _ w.heap.size _ rfl hfin) rfl ⟨?_, hbel⟩
            rw [gN_nine, HZ.out]
    ·
      go_simp
      (obtain ⟨w4, d, hw4, hd4, C'⟩ := CC.out.new; (try rw [← hw4]); (try rw [← hd4]); (replace CC := Lib.hid C'); clear C' hw4 hd4)
      refine hK.out _ _ (CC.out.tk.x) (fun hHeld => ?_)
      clear hK K
      try simp only [Act.put, List.setIfInBounds_toArray, List.set_cons_zero, List.set_cons_succ]
      refine wpAnyH_ready (rs := [4]) (by kernel_rfl) (by simp) ?_
      refine (AllReadyH.cons rfl (fun K hK => ?_) AllReadyH.nil)
      go_simp
      ((with_reducible refine (g1 _ _ CC.out.tk.ra).mono ?_); rintro e3 w3 ⟨rfl, hra, hbt⟩; (replace CC := Lib.hid (CC.out.but hra hbt)); clear hra hbt)
      refine hK.out _ _ (CC.out.tk.x) (fun hHeld => ?_)
      clear hK K
      try simp only [Act.put, List.setIfInBounds_toArray, List.set_cons_zero, List.set_cons_succ]
      refine wpAnyH_ready (rs := [6]) (by kernel_rfl) (by simp) ?_
      refine (AllReadyH.cons rfl (fun K hK => ?_) AllReadyH.nil)
      go_simp
      ((with_reducible refine (g2 _ _ CC.out.tk.ra).mono ?_); rintro e3 w3 ⟨rfl, hra, hbt⟩; (replace CC := Lib.hid (CC.out.but hra hbt)); clear hra hbt)
      refine hK.out _ _ (CC.out.tk.x) (fun hHeld => ?_)
      clear hK K
      try simp only [Act.put, List.setIfInBounds_toArray, List.set_cons_zero, List.set_cons_succ]
      refine wpAnyH_ready (rs := [8]) (by kernel_rfl) (by simp) ?_
      refine (AllReadyH.cons rfl (fun K hK => ?_) AllReadyH.nil)
      go_simp
      ((with_reducible refine (g3 _ _ CC.out.tk.ra).mono ?_); rintro e3 w3 ⟨rfl, hra, hbt⟩; (replace CC := Lib.hid (CC.out.but hra hbt)); clear hra hbt)
      refine hK.out _ _ (CC.out.tk.x) (fun hHeld => ?_)
      clear hK K
      try simp only [Act.put, List.setIfInBounds_toArray, List.set_cons_zero, List.set_cons_succ]
      refine wpAnyH_ready (rs := [10]) (by kernel_rfl) (by simp) ?_
      refine (AllReadyH.cons rfl (fun K hK => ?_) AllReadyH.nil)
      go_simp
      ((with_reducible refine (g4 _ _ CC.out.tk.ra).mono ?_); rintro e3 w3 ⟨rfl, hra, hbt⟩; (replace CC := Lib.hid (CC.out.but hra hbt)); clear hra hbt)
      refine hK.out _ _ (CC.out.tk.x) (fun hHeld => ?_)
      clear hK K
      try simp only [Act.put, List.setIfInBounds_toArray, List.set_cons_zero, List.set_cons_succ]
      refine wpAnyH_take (i := 11) (oi := ?o12o) (v := ?o12v) ?o12h (by kernel_rfl) (by kernel_rfl) (by kernel_rfl) ?o12q ?o12y hHeld ?o12r
      case o12h => (simp only [List.getElem?_toArray, List.getElem?_cons_succ, List.getElem?_cons_zero]; rfl)
      case o12q => exact fun _ _ _ h => h
      case o12y => (refine Or.inl ⟨by first | kernel_rfl | rfl, ?_⟩; intro w hSw; (try dsimp only at hSw); have y0 := hSw.c0; have y1 := hSw.c1; go_simp <;> (try with_reducible rfl))
      try simp only [Act.put, List.setIfInBounds_toArray, List.set_cons_zero, List.set_cons_succ]
      refine wpAnyH_ready (rs := [13]) (by kernel_rfl) (by simp) ?_
      refine (AllReadyH.cons rfl (fun K hK => ?_) AllReadyH.nil)
      refine (if_pos (by kernel_rfl)).mpr ?_
      refine store_ag _ _ rfl d Ag.zero ⟨un, s, z1, z2, z3, a, fun _ => 0⟩ rfl rfl (CC.out.g d rfl).2 ?_
      refine hK.out _ _ (CC.out.tk.x.upto (stA_below _ (Below.refl d _) (Nat.le_refl _)) (by have := (CC.out.g d rfl).1; have := CC.out.tk.l8; omega)) (fun hHeld => ?_)
      clear hK K
      try simp only [Act.put]
      refine wpAnyH_done (by kernel_rfl) ?_ _
      clear hHeld
      obtain ⟨w10, hw10, h10⟩ := CC.out.fill un z1 z2 z3 a
      rw [← hw10]
      have H9 := Lib.hid h10
      clear hw10 h10 CC g1 g2 g3 g4
      go_wp2_with fail
      go_loopw [12, 59] (fun _ i wr => ∃ k : Nat, i = .int .i64 (k : Int) ∧ k ≤ 9 ∧ TL w b8 d (stN r4 b4 k).1 (stN r4 b4 k).2 ⟨un, s, z1, z2, z3, a, gN r4 b4 k⟩ wr) (fun _ i _ => 9 - (intOf i).toNat)
      case atStart => exact ⟨0, rfl, by omega, H9.out⟩
      case round =>
        obtain ⟨k, rfl, hk, hQ⟩ := hrel
        have HQ := Lib.hid hQ
        clear hQ H9
        by_cases hk9 : k < 9
        · have hk9i : (k : Int) < 9 := by omega
          have hk0i : 0 ≤ (k : Int) := by omega
          have hwk : IntKind.i64.wrap ((k : Int) + 1) = (k : Int) + 1 := by rw [IntKind.wrap_i64]; omega
          obtain ⟨vk, hvk⟩ : ∃ x, nmN r4 b4 k = x := ⟨_, rfl⟩
          have hstep := stN_step r4 b4 k
          rw [hvk] at hstep
          have kn := fun W h => num_is b8 (stN r4 b4 k).1 (stN r4 b4 (k + 1)).1 (stN r4 b4 k).2 (stN r4 b4 (k + 1)).2 vk W (by have := (HST.out.1 k).2; have := HST.out.2; unfold maxLen; omega) (Lib.hid hstep) h
          clear hstep
          obtain ⟨wv, hwv⟩ : ∃ x, w64 vk = x := ⟨_, rfl⟩
          have hwvk : IntKind.i64.wrap vk = wv := hwv
          have HS := Lib.hid (show setB (gN r4 b4 k) k wv = gN r4 b4 (k + 1) by rw [← hwv, ← hvk]; exact gN_step r4 b4 k)
          clear hwv hvk
          go_wp2_with (go_at_call 80; (with_reducible refine (kn _ HQ.out.ra).mono ?_); rintro e5 w5 ⟨rfl, hra, hbt⟩; (have H5 := Lib.hid (HQ.out.but hra hbt)); (have s1 := (AgL.of H5.out.g).cell (9 + k) (List.getElem?_eq_getElem (by rw [show (cells18 _).length = 18 from rfl]; omega))); (have s2 := (AgL.of H5.out.g).free (9 + k) (by omega)); clear hra hbt)
          have h := H5.out.put k hk9 wv
          dsimp only at h
          rw [HS.out] at h
          exact ⟨⟨k + 1, rfl, by omega, h⟩, by simp [intOf]; omega⟩
        · have hk' : k = 9 := by omega
          subst hk'
          go_upto_region 13 with fail
          refine wp_region_lit ?_
          refine list_load_ag rfl _ rfl d _ rfl HQ.out.g.at_ ?_
          refine list_store_ag rfl _ _ rfl w.heap.size Ag.zero _ rfl rfl HQ.out.res ?_
          obtain ⟨w9, hw9, hfin, hbel⟩ := finM_name (HQ.out.res.st ⟨un, s, z1, z2, z3, a, gN r4 b4 9⟩).at_ (stA_below ⟨un, s, z1, z2, z3, a, gN r4 b4 9⟩ HQ.out.bel (by omega))
          rw [← hw9]
          refine wpList_nil ?_
          go_wp2
          refine bodyPost_ret (v := agV ⟨un, s, z1, z2, z3, a, gN r4 b4 9⟩) (results_ag Try.results53 _ _ w.heap.size _ rfl hfin) rfl ⟨?_, hbel⟩
          rw [gN_nine, HZ.out]
end Go.Proofs.Ytipjhlabcbkgjaa.Ag

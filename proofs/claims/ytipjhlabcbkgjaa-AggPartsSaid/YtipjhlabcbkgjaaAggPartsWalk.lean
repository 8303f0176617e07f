/- The walk of AggParts. -/
import Derived.Test.YtipjhlabcbkgjaaAggAwake
import Derived.Test.YtipjhlabcbkgjaaAggPartsMath
import Derived.Test.YtipjhlabcbkgjaaAggRead
import Derived.Test.YtipjhlabcbkgjaaAggMerge
import Derived.Test.YtipjhlabcbkgjaaAggArgs
import Derived.Test.YtipjhlabcbkgjaaAggYields
set_option maxRecDepth 20000
set_option linter.unusedSimpArgs false
namespace Go.Proofs.Ytipjhlabcbkgjaa.aggParts
open Go.RowKit Go.Proofs.Ytipjhlabcbkgjaa Go.Proofs.Ytipjhlabcbkgjaa.Wd Go.Proofs.Ytipjhlabcbkgjaa.Vi Go.Proofs.Ytipjhlabcbkgjaa.Mk Go.Proofs.Ytipjhlabcbkgjaa.Ag

theorem join {P : Prop} {F : Nat → Act} {T : Nat → World → Prop} {K : Act → World → Prop} (hw : (∀ d W, T d W → K (F d) W) → P) (hr : ∀ d W, T d W → K (F d) W) : P := hw hr
theorem PRow.cap {w : World} {B : Nat} {a : Option Addr} {n c : Nat} {xs : List Pt} (h : PRow w B (.slice a n c) xs) : xs.length ≤ c := by
  rcases h.2 with ⟨hv, h0⟩ | ⟨g, cap, cur, hv, _, _, hc, _⟩
  · omega
  · injection hv with e1 e2 e3
    omega
theorem sz6 (w : World) : (sizeOf (Try.prog.elem 37)).run Try.prog w = .ok 6 w := by kernel_rfl
theorem Pts.cut {w : World} {B : Nat} {a : Option Addr} {l : List Pt} (h : Pts w B a l) (k cap : Nat) (hk : k ≤ l.length) (hc : l.length ≤ cap) : Pts w B (if cap = k then a else a.map (·.add (k * 6))) (l.drop k) := by
  split
  · exact ⟨Or.inl (List.drop_eq_nil_of_le (by omega))⟩
  · rcases h.at_ with h0 | ⟨b, off, rfl, hb, hp⟩
    · exact ⟨Or.inl (by rw [h0]; simp)⟩
    · have h2 := Pts.drop h k
      by_cases hk0 : k * 6 = 0
      · rw [hk0] at h2 ⊢
        exact h2
      · simpa [Addr.add, hk0] using h2
theorem cut_head (aM : Option Addr) (n cM c : Nat) (hn : n ≤ cM) (hc : c ≤ n) : ∃ aX cX, (∀ W, (Instr.slice 37 (.slice aM n cM) none (some (.int .i64 (c : Int))) none).run Try.prog W = .ok (.slice aX c cX) W) ∧ ∀ {w : World} {B : Nat} {m : List Pt}, Pts w B aM m → m.length = n → Pts w B aX (m.take c) := by
  refine ⟨if cM = 0 then aM else aM.map (·.add (0 * 6)), cM - 0, fun W => ?_, fun h hm => ?_⟩
  · rw [run_slice_h (P := Try.prog) W 37 aM n cM Try.underlying37 .i64 (c : Int) (by omega) (by omega), sz6, Int.toNat_natCast]; rfl
  · have := (Pts.cut h 0 cM (by omega) (by omega)).take c
    rwa [List.drop_zero] at this
theorem cut_mid (aM : Option Addr) (n cM c d : Nat) (hn : n ≤ cM) (hc : c ≤ d) (hd : d ≤ n) : ∃ aX cX, (∀ W, (Instr.slice 37 (.slice aM n cM) (some (.int .i64 (c : Int))) (some (.int .i64 (d : Int))) none).run Try.prog W = .ok (.slice aX (d - c) cX) W) ∧ ∀ {w : World} {B : Nat} {m : List Pt}, Pts w B aM m → m.length = n → Pts w B aX ((m.drop c).take (d - c)) := by
  refine ⟨if cM = c then aM else aM.map (·.add (c * 6)), cM - c, fun W => ?_, fun h hm => (Pts.cut h c cM (by omega) (by omega)).take (d - c)⟩
  rw [run_slice_lh (P := Try.prog) W 37 aM n cM Try.underlying37 .i64 .i64 (c : Int) (d : Int) (by omega) (by omega) (by omega), sz6, Int.toNat_natCast, Int.toNat_natCast]; rfl
theorem cut_tail (aM : Option Addr) (n cM d : Nat) (hn : n ≤ cM) (hd : d ≤ n) : ∃ aX cX, (∀ W, (Instr.slice 37 (.slice aM n cM) (some (.int .i64 (d : Int))) none none).run Try.prog W = .ok (.slice aX (n - d) cX) W) ∧ ∀ {w : World} {B : Nat} {m : List Pt}, Pts w B aM m → m.length = n → Pts w B aX (m.drop d) := by
  refine ⟨if cM = d then aM else aM.map (·.add (d * 6)), cM - d, fun W => ?_, fun h hm => Pts.cut h d cM (by omega) (by omega)⟩
  rw [run_slice_l (P := Try.prog) W 37 aM n cM Try.underlying37 .i64 (d : Int) (by omega) (by omega), sz6, Int.toNat_natCast]; rfl
/-- Nothing has been cut yet: the argument's box and the two places. -/
structure CL (w : World) (B b7 : Nat) (aM : Option Addr) (m : List Pt) (k0 k1 f0 f1 : Int) (W : World) : Prop where
  p : Pts W B aM m
  a0 : W.cell? ⟨w.heap.size, 0, none⟩ = some (.int .i64 k0)
  a1 : W.cell? ⟨w.heap.size, 1, none⟩ = some (.int .i64 k1)
  c0 : W.cell? ⟨b7, 0, none⟩ = some (.int .i64 f0)
  c1 : W.cell? ⟨b7, 1, none⟩ = some (.int .i64 f1)
  z0 : W.frozen? ⟨b7, 0, none⟩ = false
  z1 : W.frozen? ⟨b7, 1, none⟩ = false
  lw : w.heap.size < B
  lB : B ≤ b7
  bel : Below w.heap.size w W
theorem CL.put0 {w : World} {B b7 : Nat} {aM : Option Addr} {m : List Pt} {k0 k1 f0 f1 : Int} {W : World} (h : CL w B b7 aM m k0 k1 f0 f1 W) (n : Int) : CL w B b7 aM m k0 k1 n f1 (W.setCell ⟨b7, 0, none⟩ (.int .i64 n)) := by
  have kb : Below b7 W (W.setCell ⟨b7, 0, none⟩ (.int .i64 n)) := (Below.refl _ _).setCell (p := ⟨b7, 0, none⟩) (Nat.le_refl _) _
  have hl := h.lw
  have hB := h.lB
  refine ⟨h.p.below (kb.mono hB), (kb.cell (p := ⟨w.heap.size, 0, none⟩) (by show w.heap.size < b7; omega)).trans h.a0, (kb.cell (p := ⟨w.heap.size, 1, none⟩) (by show w.heap.size < b7; omega)).trans h.a1, World.cell?_setCell_same _ _ _ h.c0, ?_, ?_, ?_, hl, hB, h.bel.trans (kb.mono (by omega))⟩
  · rw [World.cell?_setCell_other _ _ _ _ (fun e => by injection e with _ e2; cases e2)]; exact h.c1
  · have := h.z0; simp [go_sem, this]
  · have := h.z1; simp [go_sem, this]
theorem CL.put1 {w : World} {B b7 : Nat} {aM : Option Addr} {m : List Pt} {k0 k1 f0 f1 : Int} {W : World} (h : CL w B b7 aM m k0 k1 f0 f1 W) (n : Int) : CL w B b7 aM m k0 k1 f0 n (W.setCell ⟨b7, 1, none⟩ (.int .i64 n)) := by
  have kb : Below b7 W (W.setCell ⟨b7, 1, none⟩ (.int .i64 n)) := (Below.refl _ _).setCell (p := ⟨b7, 1, none⟩) (Nat.le_refl _) _
  have hl := h.lw
  have hB := h.lB
  refine ⟨h.p.below (kb.mono hB), (kb.cell (p := ⟨w.heap.size, 0, none⟩) (by show w.heap.size < b7; omega)).trans h.a0, (kb.cell (p := ⟨w.heap.size, 1, none⟩) (by show w.heap.size < b7; omega)).trans h.a1, ?_, World.cell?_setCell_same _ _ _ h.c1, ?_, ?_, hl, hB, h.bel.trans (kb.mono (by omega))⟩
  · rw [World.cell?_setCell_other _ _ _ _ (fun e => by injection e with _ e2; cases e2)]; exact h.c0
  · have := h.z0; simp [go_sem, this]
  · have := h.z1; simp [go_sem, this]
theorem CL.new {w : World} {B : Nat} {aM : Option Addr} {m : List Pt} {k0 k1 : Int} {W : World} (p : Pts W B aM m) (a0 : W.cell? ⟨w.heap.size, 0, none⟩ = some (.int .i64 k0)) (a1 : W.cell? ⟨w.heap.size, 1, none⟩ = some (.int .i64 k1)) (lw : w.heap.size < B) (lB : B ≤ W.heap.size) (bel : Below w.heap.size w W) :
    ∃ x q, x = W.alloc (.cells #[.int .i64 0, .int .i64 0] 54) ∧ q = W.heap.size ∧ CL w B q aM m k0 k1 0 0 x := by
  have kb : Below W.heap.size W (W.alloc (.cells #[.int .i64 0, .int .i64 0] 54)) := (Below.refl _ _).alloc (Nat.le_refl _) _
  exact ⟨_, _, rfl, rfl, p.below (kb.mono lB), (kb.cell (p := ⟨w.heap.size, 0, none⟩) (by show w.heap.size < _; omega)).trans a0, (kb.cell (p := ⟨w.heap.size, 1, none⟩) (by show w.heap.size < _; omega)).trans a1, by simp [go_sem], by simp [go_sem], by simp [go_sem], by simp [go_sem], lw, lB, bel_new bel _⟩
/-- The places of the cuts, and the aggregates so far. -/
structure PS (w : World) (B b7 : Nat) (aM : Option Addr) (m : List Pt) (c d : Int) (gs : List (Nat × Ag)) (W : World) : Prop where
  p : Pts W B aM m
  c0 : W.cell? ⟨b7, 0, none⟩ = some (.int .i64 c)
  c1 : W.cell? ⟨b7, 1, none⟩ = some (.int .i64 d)
  g : ∀ x ∈ gs, AgAt W x.1 x.2
  lB : B ≤ b7
  bel : Below w.heap.size w W
theorem PS.room {w : World} {B b7 : Nat} {aM : Option Addr} {m : List Pt} {c d : Int} {gs : List (Nat × Ag)} {W : World} (h : PS w B b7 aM m c d gs W) : b7 < W.heap.size := World.block_lt_of_cell? W _ h.c0
theorem PS.keep {w : World} {B b7 : Nat} {aM : Option Addr} {m : List Pt} {c d : Int} {gs : List (Nat × Ag)} {W W' : World} (h : PS w B b7 aM m c d gs W) (k : Below W.heap.size W W') : PS w B b7 aM m c d gs W' :=
  ⟨h.p.below (k.mono (by have := h.room; have := h.lB; omega)), (k.cell (p := ⟨b7, 0, none⟩) h.room).trans h.c0, (k.cell (p := ⟨b7, 1, none⟩) h.room).trans h.c1, fun x hx => (h.g x hx).below k, h.lB, bel_next h.bel k⟩
theorem PS.pts {w : World} {B b7 : Nat} {aM : Option Addr} {m : List Pt} {c d : Int} {gs : List (Nat × Ag)} {W : World} (h : PS w B b7 aM m c d gs W) : Pts W W.heap.size aM m := h.p.mono (by have := h.room; have := h.lB; omega)
theorem PS.tail {w : World} {B b7 : Nat} {aM : Option Addr} {m : List Pt} {c d : Int} {x : Nat × Ag} {gs : List (Nat × Ag)} {W : World} (h : PS w B b7 aM m c d (x :: gs) W) : PS w B b7 aM m c d gs W := ⟨h.p, h.c0, h.c1, fun y hy => h.g y (List.mem_cons_of_mem _ hy), h.lB, h.bel⟩
theorem PS.new {w : World} {B b7 : Nat} {aM : Option Addr} {m : List Pt} {c d : Int} {gs : List (Nat × Ag)} {W : World} (h : PS w B b7 aM m c d gs W) (a : Ag) :
    ∃ x q, x = stA (W.alloc (.cells #[.int .i64 0, .int .i64 0, .int .u64 0, .int .i64 0, .int .i64 0, .int .i64 0, .int .i64 0, .int .i64 0, .int .i64 0, .int .i64 0, .int .i64 0, .int .i64 0, .int .i64 0, .int .i64 0, .int .i64 0, .int .i64 0, .int .i64 0, .int .i64 0] 29)) W.heap.size a ∧ q = W.heap.size ∧ PS w B b7 aM m c d ((q, a) :: gs) x := by
  have kk := stA_below a (bel_new (Below.refl W.heap.size W) (.cells #[.int .i64 0, .int .i64 0, .int .u64 0, .int .i64 0, .int .i64 0, .int .i64 0, .int .i64 0, .int .i64 0, .int .i64 0, .int .i64 0, .int .i64 0, .int .i64 0, .int .i64 0, .int .i64 0, .int .i64 0, .int .i64 0, .int .i64 0, .int .i64 0] 29)) (Nat.le_refl _)
  have h2 := h.keep kk
  refine ⟨_, _, rfl, rfl, h2.p, h2.c0, h2.c1, fun x hx => ?_, h2.lB, h2.bel⟩
  rcases List.mem_cons.1 hx with rfl | hx
  · exact ((AgW.zero W 29).st a).at_
  · exact h2.g x hx
/-- The block of the aggregate that is to come, once it is there. -/
structure XO (w : World) (B b7 : Nat) (gs : List (Nat × Ag)) (o : Option Nat) (W : World) : Prop where
  e : ∀ e, o = some e → AgW W e Ag.zero ∧ b7 < e ∧ w.heap.size ≤ e ∧ ∀ x ∈ gs, x.1 < e
theorem XO.none (w : World) (B b7 : Nat) (gs : List (Nat × Ag)) (W : World) : XO w B b7 gs none W := ⟨fun e he => by cases he⟩
theorem XO.keep {w : World} {B b7 : Nat} {gs : List (Nat × Ag)} {o : Option Nat} {W W' : World} (h : XO w B b7 gs o W) (k : Below W.heap.size W W') : XO w B b7 gs o W' := ⟨fun e he => ⟨(h.e e he).1.below k, (h.e e he).2⟩⟩
theorem PS.box {w : World} {B b7 : Nat} {aM : Option Addr} {m : List Pt} {c d : Int} {gs : List (Nat × Ag)} {W : World} (h : PS w B b7 aM m c d gs W) :
    ∃ x e, x = W.alloc (.cells #[.int .i64 0, .int .i64 0, .int .u64 0, .int .i64 0, .int .i64 0, .int .i64 0, .int .i64 0, .int .i64 0, .int .i64 0, .int .i64 0, .int .i64 0, .int .i64 0, .int .i64 0, .int .i64 0, .int .i64 0, .int .i64 0, .int .i64 0, .int .i64 0] 29) ∧ e = W.heap.size ∧ PS w B b7 aM m c d gs x ∧ XO w B b7 gs (some e) x :=
  ⟨_, _, rfl, rfl, h.keep ((Below.refl _ _).alloc (Nat.le_refl _) _), ⟨fun e he => by
    obtain rfl : W.heap.size = e := by injection he
    exact ⟨AgW.zero W _, h.room, h.bel.size, fun x hx => (h.g x hx).room⟩⟩⟩
theorem PS.stO {w : World} {B b7 : Nat} {aM : Option Addr} {m : List Pt} {c d : Int} {gs : List (Nat × Ag)} {W : World} {e : Nat} (h : PS w B b7 aM m c d gs W) (x : XO w B b7 gs (some e) W) (a : Ag) : PS w B b7 aM m c d ((e, a) :: gs) (stA W e a) := by
  obtain ⟨x1, x2, x3, x4⟩ := x.e e rfl
  have kb := stA_below a (Below.refl e W) (Nat.le_refl _)
  refine ⟨h.p.below (kb.mono (by have := h.lB; omega)), (kb.cell (p := ⟨b7, 0, none⟩) x2).trans h.c0, (kb.cell (p := ⟨b7, 1, none⟩) x2).trans h.c1, fun y hy => ?_, h.lB, h.bel.trans (kb.mono x3)⟩
  rcases List.mem_cons.1 hy with rfl | hy
  · exact (x1.st a).at_
  · exact (h.g y hy).upto kb (x4 y hy)
theorem ps_name {w : World} {B b7 : Nat} {aM : Option Addr} {m : List Pt} {c d : Int} {gs : List (Nat × Ag)} {W : World} (h : PS w B b7 aM m c d gs W) : ∃ x, x = W ∧ PS w B b7 aM m c d gs x := ⟨W, rfl, h⟩
theorem CL.ps {w : World} {B b7 : Nat} {aM : Option Addr} {m : List Pt} {k0 k1 f0 f1 : Int} {W : World} (h : CL w B b7 aM m k0 k1 f0 f1 W) : PS w B b7 aM m f0 f1 [] W := ⟨h.p, h.c0, h.c1, (fun x hx => by cases hx), h.lB, h.bel⟩
theorem CL.name {w : World} {B b7 : Nat} {aM : Option Addr} {m : List Pt} {k0 k1 f0 f1 : Int} {W : World} (h : CL w B b7 aM m k0 k1 f0 f1 W) : ∃ x, x = W ∧ CL w B b7 aM m k0 k1 f0 f1 x := ⟨W, rfl, h⟩
set_option maxHeartbeats 8000000 in
theorem walk (a0 : Option Addr) (len cap : Nat) (k0 k1 : Int) (w : World) (h : ArgPts w a0 len cap) (hk0 : -9223372036854775808 ≤ k0 ∧ k0 ≤ 9223372036854775807) (hk1 : -9223372036854775808 ≤ k1 ∧ k1 ≤ 9223372036854775807) : Calls Try.prog 8 #[.slice a0 len cap, .agg #[.int .i64 k0, .int .i64 k1]] w fun e w' => e = .returned (.bool true) ∧ Below w.heap.size w w' := by
  obtain ⟨⟨l, hl, hP, hlen, hf⟩, hc⟩ := h
  have HP := Lib.hid hP
  have krt := fun W (hp : Pts W W.heap.size a0 l) => right_is a0 len cap W l (Lib.hid hl) hp hc hlen
  obtain ⟨m, hm⟩ : ∃ m, rtL l = m := ⟨_, rfl⟩
  unfold RightDone at krt
  rw [hm] at krt
  have hml : m.length ≤ 40 := by rw [← hm]; unfold rtL; rw [rtN_len]; omega
  have hfm : ∀ p ∈ m, p.fits := fun p hp => by
    rw [← hm] at hp
    unfold rtL rtN at hp
    obtain ⟨i, hi, rfl⟩ := List.mem_mapIdx.1 hp
    have hq := hf _ (List.mem_of_mem_take (List.getElem_mem hi))
    exact ⟨hq.s, hq.t, hq.v⟩
  have hnum : Num m := by rw [← hm]; exact rt_num l
  have hst : ∀ p ∈ m, p.st.ok = true := fun p hp => by rw [← hm] at hp; exact rt_ok hp
  have hok := fold_ok m hfm hst (by omega)
  have hgf := foldA_fits hfm
  have hgn := (fold_known m hfm (by omega)).n
  obtain ⟨n, hn⟩ : ∃ n, m.length = n := ⟨_, rfl⟩
  obtain ⟨C0, hC0⟩ : ∃ c, cutK k0 n = c := ⟨_, rfl⟩
  obtain ⟨C1, hC1⟩ : ∃ c, cutK k1 n = c := ⟨_, rfl⟩
  have hc0 : C0 ≤ n := by rw [← hC0]; exact cutK_le k0 n
  have hc1 : C1 ≤ n := by rw [← hC1]; exact cutK_le k1 n
  -- whichever of the two is the lesser
  have hpt := fun c e (hce : c ≤ e) => parts hnum hfm (by omega) c e hce
  have hft : ∀ c, ∀ p ∈ m.take c, p.fits := fun c p hp => hfm p (List.mem_of_mem_take hp)
  have hfd : ∀ c, ∀ p ∈ m.drop c, p.fits := fun c p hp => hfm p (List.mem_of_mem_drop hp)
  have hfy : ∀ c e, ∀ p ∈ (m.drop c).take e, p.fits := fun c e p hp => hfm p (List.mem_of_mem_drop (List.mem_of_mem_take hp))
  obtain ⟨g, hg⟩ : ∃ g, foldA m = g := ⟨_, rfl⟩
  have kf := fun a c W (hp : Pts W W.heap.size a m) => fold_is a c n m W (Lib.hid hn) hp hfm (by omega)
  have kft := fun cc a c W (hcc : cc ≤ n) (hp : Pts W W.heap.size a (m.take cc)) => fold_is a c cc (m.take cc) W (Lib.hid (by rw [List.length_take]; omega)) hp (hft cc) (by omega)
  have kfd := fun cc a c W (hcc : cc ≤ n) (hp : Pts W W.heap.size a (m.drop cc)) => fold_is a c (n - cc) (m.drop cc) W (Lib.hid (by rw [List.length_drop]; omega)) hp (hfd cc) (by omega)
  have kfy := fun cc ee a c W (hcc : cc ≤ ee) (hee : ee ≤ n) (hp : Pts W W.heap.size a ((m.drop cc).take (ee - cc))) => fold_is a c (ee - cc) ((m.drop cc).take (ee - cc)) W (Lib.hid (by rw [List.length_take, List.length_drop]; omega)) hp (hfy cc _) (by omega)
  rw [hg] at hok hgf hgn kf
  rw [hn] at hgn
  obtain ⟨T, hT⟩ : ∃ z, tx (bytesA g) = z := ⟨_, rfl⟩
  have hTs : T.size ≤ 1000 := by rw [← hT, tx_size]; exact bytesA_len hgf
  have her : errA g = 0 := by unfold errA; rw [if_pos hok]
  have kb := fun W => bytes8_is g hgf T (Lib.hid hT) W
  rw [her] at kb
  have kd := fun W => check8_is g hgf 0 (Lib.hid her) W
  obtain ⟨g', hg', hgg⟩ := read_back hgf hok
  rw [hT] at hg'
  have kr := fun W => read8_is T W hTs g' 0 (Lib.hid hg')
  rw [hgg] at kr
  have q0 := fun w => eqAg_self g w
  have g0 := fun x y w => guardAg x y g g w
  have hn40 : n ≤ 40 := by omega
  have HM := Lib.hid hn
  have r0 : ∀ c : Nat, c ≤ n → (0 : Int) ≤ (c : Int) := fun c _ => by omega
  have HDATA := Lib.hid (And.intro hpt (And.intro hft (And.intro hfd hfy)))
  have HGF := Lib.hid hgf
  have hn1 : ((n : Int) + 1 == 0) = false := by rw [beq_eq_false_iff_ne]; omega
  have hn1' : ¬ ((n : Int) + 1 = 0) := by omega
  have hwn : IntKind.i64.wrap ((n : Int) + 1) = (n : Int) + 1 := by rw [IntKind.wrap_i64]; omega
  clear hP hl hf hlen hc hm hfm hn hml hnum hst hok hgf hpt hft hfd hfy hT hTs her hg' hgg r0
  go_enter Try.func8, Try.ntmps8
  go_upto_region 1 with fail
  obtain ⟨w0, hw0, x0, x1, x2, x3⟩ : ∃ x, x = w.alloc (.cells #[.int .i64 k0, .int .i64 k1] 54) ∧ x.cell? ⟨w.heap.size, 0, none⟩ = some (.int .i64 k0) ∧ x.cell? ⟨w.heap.size, 1, none⟩ = some (.int .i64 k1) ∧ Below w.heap.size w x ∧ w.heap.size < x.heap.size :=
    ⟨_, rfl, by simp [go_sem], by simp [go_sem], bel_new (Below.refl _ _) _, by simp⟩
  rw [← hw0]
  have H0 := Lib.hid (And.intro x0 (And.intro x1 (And.intro x2 x3)))
  clear hw0 x0 x1 x2 x3
  go_upto_region 3 with (first
    | (go_at_call 11; (with_reducible refine (awake_is _).mono ?_); rintro e w1 ⟨rfl, hb1⟩; (have H1 := Lib.hid hb1); clear hb1)
    | (go_at_call 31; (with_reducible refine (krt _ ((HP.out.below (bel_next H0.out.2.2.1 H1.out)).mono (bel_next H0.out.2.2.1 H1.out).size)).mono ?_); rintro e w2 ⟨v, rfl, hrow, hb2⟩; obtain ⟨aM, cM, hv⟩ := hrow.slice; subst hv; (have HROW := Lib.hid hrow); (have HB2 := Lib.hid hb2); clear hrow hb2))
  have HPT := Lib.hid (And.intro HROW.out.pts (PRow.cap HROW.out))
  clear HROW krt
  rw [HM.out] at HPT
  rw [HM.out]
  go_upto_region 4 with fail
  obtain ⟨w3, b7, hw3, hb7, H3⟩ := CL.new (w := w) (k0 := k0) (k1 := k1) HPT.out.1 (((HB2.out.cell (p := ⟨w.heap.size, 0, none⟩) (Nat.lt_of_lt_of_le H0.out.2.2.2 H1.out.size)).trans (H1.out.cell (p := ⟨w.heap.size, 0, none⟩) H0.out.2.2.2)).trans H0.out.1) (((HB2.out.cell (p := ⟨w.heap.size, 1, none⟩) (Nat.lt_of_lt_of_le H0.out.2.2.2 H1.out.size)).trans (H1.out.cell (p := ⟨w.heap.size, 1, none⟩) H0.out.2.2.2)).trans H0.out.2.1) (by have := H0.out.2.2.2; have := H1.out.size; have := HB2.out.size; omega) (Nat.le_refl _) (bel_next (bel_next H0.out.2.2.1 H1.out) HB2.out)
  obtain ⟨B, hB⟩ : ∃ b, w2.heap.size = b := ⟨_, rfl⟩
  (try rw [← hw3])
  (try rw [← hb7])
  rw [hB] at H3
  have HL := Lib.hid H3
  have HCM := Lib.hid HPT.out.2
  clear hw3 hb7 H3 hB HPT HB2 H0 H1
  go_wp2_with fail
  go_loopw [8, 9] (fun i _ wr => (i = .int .i64 0 ∧ CL w B b7 aM m k0 k1 0 0 wr) ∨ (i = .int .i64 1 ∧ CL w B b7 aM m k0 k1 (C0 : Int) 0 wr) ∨ (i = .int .i64 2 ∧ CL w B b7 aM m k0 k1 (C0 : Int) (C1 : Int) wr)) (fun i _ _ => 2 - (intOf i).toNat)
  case atStart => exact Or.inl ⟨rfl, HL.out⟩
  case round =>
    rcases hrel with ⟨rfl, hR⟩ | ⟨rfl, hR⟩ | ⟨rfl, hR⟩
    · have HR := Lib.hid hR
      have yk := hR.a0
      have yc := hR.c0
      have yz := hR.z0
      clear hR HL
      by_cases hneg : k0 < 0
      · have t1 := cutK_neg n hneg
        rw [hC0] at t1
        have w1 : IntKind.i64.wrap (k0 + 1) = k0 + 1 := by rw [IntKind.wrap_i64]; omega
        have w2 : IntKind.i64.wrap (-(k0 + 1)) = -(k0 + 1) := by rw [IntKind.wrap_i64]; omega
        have w3 : IntKind.i64.wrap (C0 : Int) = (C0 : Int) := by rw [IntKind.wrap_i64]; omega
        go_wp2_with fail
        go_roundw
        case rel => exact Or.inr (Or.inl ⟨rfl, HR.out.put0 _⟩)
        case measure => simp [intOf]
      · have t1 := cutK_pos n hneg
        rw [hC0] at t1
        have w3 : IntKind.i64.wrap (C0 : Int) = (C0 : Int) := by rw [IntKind.wrap_i64]; omega
        go_wp2_with fail
        go_roundw
        case rel => exact Or.inr (Or.inl ⟨rfl, HR.out.put0 _⟩)
        case measure => simp [intOf]
    · have HR := Lib.hid hR
      have yk := hR.a1
      have yc := hR.c1
      have yz := hR.z1
      clear hR HL
      by_cases hneg : k1 < 0
      · have t1 := cutK_neg n hneg
        rw [hC1] at t1
        have w1 : IntKind.i64.wrap (k1 + 1) = k1 + 1 := by rw [IntKind.wrap_i64]; omega
        have w2 : IntKind.i64.wrap (-(k1 + 1)) = -(k1 + 1) := by rw [IntKind.wrap_i64]; omega
        have w3 : IntKind.i64.wrap (C1 : Int) = (C1 : Int) := by rw [IntKind.wrap_i64]; omega
        go_wp2_with fail
        go_roundw
        case rel => exact Or.inr (Or.inr ⟨rfl, HR.out.put1 _⟩)
        case measure => simp [intOf]
      · have t1 := cutK_pos n hneg
        rw [hC1] at t1
        have w3 : IntKind.i64.wrap (C1 : Int) = (C1 : Int) := by rw [IntKind.wrap_i64]; omega
        go_wp2_with fail
        go_roundw
        case rel => exact Or.inr (Or.inr ⟨rfl, HR.out.put1 _⟩)
        case measure => simp [intOf]
    · have HR := Lib.hid hR
      clear hR HL
      rcases Nat.lt_or_ge C1 C0 with hlt | hge
      · have hcmp : decide (C1 < C0) = true := decide_eq_true (by omega)
        have hle : C1 ≤ C0 := Nat.le_of_lt hlt
        have y0 := HR.out.c0
        have y1 := HR.out.c1
        have z0 := HR.out.z0
        have z1 := HR.out.z1
        have u1 : (0 : Int) ≤ (C0 : Int) := by omega
        have u2 : (0 : Int) ≤ (C1 : Int) := by omega
        clear hlt
        go_upto_region 15 with fail
        obtain ⟨w14, hw14, h14⟩ := ps_name (((HR.out.put0 (C1 : Int)).put1 (C0 : Int)).ps)
        rw [← hw14]
        have HS := Lib.hid h14
        clear hw14 h14 y0 y1 z0 z1 HR hcmp
        obtain ⟨hpt, hft, hfd, hfy⟩ := HDATA.out
        obtain ⟨p1, p2, p3, p4, p5, p6⟩ := hpt C1 C0 hle
        have fx := foldA_fits (hft C1)
        have fy := foldA_fits (hfy C1 (C0 - C1))
        have fz := foldA_fits (hfd C0)
        have f1 := foldA_fits (hft C0)
        have f2 := foldA_fits (hfd C1)
        obtain ⟨aX, cX, sx, px⟩ := cut_head aM n cM C1 HCM.out hc1
        obtain ⟨aY, cY, sy, py⟩ := cut_mid aM n cM C1 C0 HCM.out hle hc0
        obtain ⟨aZ, cZ, sz, pz⟩ := cut_tail aM n cM C0 HCM.out hc0
        have kx := fun W (hp : Pts W W.heap.size aM m) => kft C1 aX cX W hc1 (px hp HM.out)
        have ky := fun W (hp : Pts W W.heap.size aM m) => kfy C1 C0 aY cY W hle hc0 (py hp HM.out)
        have kz := fun W (hp : Pts W W.heap.size aM m) => kfd C0 aZ cZ W hc0 (pz hp HM.out)
        obtain ⟨x, hx⟩ : ∃ x, foldA (m.take C1) = x := ⟨_, rfl⟩
        obtain ⟨y, hy⟩ : ∃ y, foldA ((m.drop C1).take (C0 - C1)) = y := ⟨_, rfl⟩
        obtain ⟨z, hz⟩ : ∃ z, foldA (m.drop C0) = z := ⟨_, rfl⟩
        obtain ⟨g1, hg1⟩ : ∃ z, foldA (m.take C0) = z := ⟨_, rfl⟩
        obtain ⟨g2, hg2⟩ : ∃ z, foldA (m.drop C1) = z := ⟨_, rfl⟩
        rw [hx] at kx fx p1 p4 p6
        rw [hy] at ky fy p1 p2
        rw [hz] at kz fz p2 p3 p5
        rw [hg1] at f1 p1 p3 p5
        rw [hg2] at f2 p2 p4 p6
        rw [hg] at p3 p4 p5 p6
        have mxy := fun W => merge_is x y fx fy W
        have myz := fun W => merge_is y z fy fz W
        have m1z := fun W => merge_is g1 z f1 fz W
        have mx2 := fun W => merge_is x g2 fx f2 W
        have mz1 := fun W => merge_is z g1 fz f1 W
        have m2x := fun W => merge_is g2 x f2 fx W
        rw [p1] at mxy
        rw [p2] at myz
        rw [p3] at m1z
        rw [p4] at mx2
        rw [p5] at mz1
        rw [p6] at m2x
        clear hpt hft hfd hfy p1 p2 p3 p4 p5 p6 fx fy fz f1 f2 hx hy hz hg1 hg2 px py pz kft kfy kfd HDATA hle hg hC0 hC1
        go_upto_region 15 with fail
        have y0 := HS.out.c0
        have y1 := HS.out.c1
        refine wp_region_lit ?_
        refine wpList_plain rfl fun K hK => ?_
        go_simp
        refine hK _ _ ?_
        clear hK K
        (try simp only [Act.put, List.setIfInBounds_toArray, List.set_cons_zero, List.set_cons_succ])
        refine wpList_plain rfl fun K hK => ?_
        go_simp
        ((with_reducible refine (kf _ _ _ HS.out.pts).mono ?_); rintro e w4 ⟨rfl, hb4⟩)
        refine hK _ _ ?_
        clear hK K
        (try simp only [Act.put, List.setIfInBounds_toArray, List.set_cons_zero, List.set_cons_succ])
        refine wpList_plain rfl fun K hK => ?_
        go_simp
        refine hK _ _ ?_
        clear hK K
        (try simp only [Act.put, List.setIfInBounds_toArray, List.set_cons_zero, List.set_cons_succ])
        refine list_store_ag rfl _ _ rfl w4.heap.size Ag.zero g rfl rfl (AgW.zero w4 _) ?_
        refine wpList_nil ?_
        obtain ⟨w15, b11, hw5, hb5, h5⟩ := (HS.out.keep hb4).new g
        (try rw [← hw5])
        (try rw [← hb5])
        replace HS := Lib.hid h5
        clear hw5 hb5 h5 hb4 y0 y1
        go_upto_region 16 with fail
        have y0 := HS.out.c0
        have y1 := HS.out.c1
        refine wp_region_lit ?_
        refine wpList_plain rfl fun K hK => ?_
        go_simp
        refine hK _ _ ?_
        clear hK K
        (try simp only [Act.put, List.setIfInBounds_toArray, List.set_cons_zero, List.set_cons_succ])
        refine wpList_plain rfl fun K hK => ?_
        go_simp
        refine hK _ _ ?_
        clear hK K
        (try simp only [Act.put, List.setIfInBounds_toArray, List.set_cons_zero, List.set_cons_succ])
        refine wpList_plain rfl fun K hK => ?_
        go_simp
        refine hK _ _ ?_
        clear hK K
        (try simp only [Act.put, List.setIfInBounds_toArray, List.set_cons_zero, List.set_cons_succ])
        refine wpList_plain rfl fun K hK => ?_
        go_simp
        refine hK _ _ ?_
        clear hK K
        (try simp only [Act.put, List.setIfInBounds_toArray, List.set_cons_zero, List.set_cons_succ])
        refine wpList_plain rfl fun K hK => ?_
        go_simp
        ((with_reducible refine (kx _ HS.out.pts).mono ?_); rintro e w4 ⟨rfl, hb4⟩)
        refine hK _ _ ?_
        clear hK K
        (try simp only [Act.put, List.setIfInBounds_toArray, List.set_cons_zero, List.set_cons_succ])
        refine wpList_plain rfl fun K hK => ?_
        go_simp
        refine hK _ _ ?_
        clear hK K
        (try simp only [Act.put, List.setIfInBounds_toArray, List.set_cons_zero, List.set_cons_succ])
        refine list_store_ag rfl _ _ rfl w4.heap.size Ag.zero x rfl rfl (AgW.zero w4 _) ?_
        refine wpList_nil ?_
        obtain ⟨w16, b12, hw5, hb5, h5⟩ := (HS.out.keep hb4).new x
        (try rw [← hw5])
        (try rw [← hb5])
        replace HS := Lib.hid h5
        clear hw5 hb5 h5 hb4 y0 y1
        go_upto_region 17 with fail
        have y0 := HS.out.c0
        have y1 := HS.out.c1
        refine wp_region_lit ?_
        refine wpList_plain rfl fun K hK => ?_
        go_simp
        refine hK _ _ ?_
        clear hK K
        (try simp only [Act.put, List.setIfInBounds_toArray, List.set_cons_zero, List.set_cons_succ])
        refine wpList_plain rfl fun K hK => ?_
        go_simp
        refine hK _ _ ?_
        clear hK K
        (try simp only [Act.put, List.setIfInBounds_toArray, List.set_cons_zero, List.set_cons_succ])
        refine wpList_plain rfl fun K hK => ?_
        go_simp
        refine hK _ _ ?_
        clear hK K
        (try simp only [Act.put, List.setIfInBounds_toArray, List.set_cons_zero, List.set_cons_succ])
        refine wpList_plain rfl fun K hK => ?_
        go_simp
        refine hK _ _ ?_
        clear hK K
        (try simp only [Act.put, List.setIfInBounds_toArray, List.set_cons_zero, List.set_cons_succ])
        refine wpList_plain rfl fun K hK => ?_
        go_simp
        refine hK _ _ ?_
        clear hK K
        (try simp only [Act.put, List.setIfInBounds_toArray, List.set_cons_zero, List.set_cons_succ])
        refine wpList_plain rfl fun K hK => ?_
        go_simp
        refine hK _ _ ?_
        clear hK K
        (try simp only [Act.put, List.setIfInBounds_toArray, List.set_cons_zero, List.set_cons_succ])
        refine wpList_plain rfl fun K hK => ?_
        go_simp
        ((with_reducible refine (ky _ HS.out.pts).mono ?_); rintro e w4 ⟨rfl, hb4⟩)
        refine hK _ _ ?_
        clear hK K
        (try simp only [Act.put, List.setIfInBounds_toArray, List.set_cons_zero, List.set_cons_succ])
        refine wpList_plain rfl fun K hK => ?_
        go_simp
        refine hK _ _ ?_
        clear hK K
        (try simp only [Act.put, List.setIfInBounds_toArray, List.set_cons_zero, List.set_cons_succ])
        refine list_store_ag rfl _ _ rfl w4.heap.size Ag.zero y rfl rfl (AgW.zero w4 _) ?_
        refine wpList_nil ?_
        obtain ⟨w17, b13, hw5, hb5, h5⟩ := (HS.out.keep hb4).new y
        (try rw [← hw5])
        (try rw [← hb5])
        replace HS := Lib.hid h5
        clear hw5 hb5 h5 hb4 y0 y1
        go_upto_region 18 with fail
        have y0 := HS.out.c0
        have y1 := HS.out.c1
        refine wp_region_lit ?_
        refine wpList_plain rfl fun K hK => ?_
        go_simp
        refine hK _ _ ?_
        clear hK K
        (try simp only [Act.put, List.setIfInBounds_toArray, List.set_cons_zero, List.set_cons_succ])
        refine wpList_plain rfl fun K hK => ?_
        go_simp
        refine hK _ _ ?_
        clear hK K
        (try simp only [Act.put, List.setIfInBounds_toArray, List.set_cons_zero, List.set_cons_succ])
        refine wpList_plain rfl fun K hK => ?_
        go_simp
        refine hK _ _ ?_
        clear hK K
        (try simp only [Act.put, List.setIfInBounds_toArray, List.set_cons_zero, List.set_cons_succ])
        refine wpList_plain rfl fun K hK => ?_
        go_simp
        refine hK _ _ ?_
        clear hK K
        (try simp only [Act.put, List.setIfInBounds_toArray, List.set_cons_zero, List.set_cons_succ])
        refine wpList_plain rfl fun K hK => ?_
        go_simp
        ((with_reducible refine (kz _ HS.out.pts).mono ?_); rintro e w4 ⟨rfl, hb4⟩)
        refine hK _ _ ?_
        clear hK K
        (try simp only [Act.put, List.setIfInBounds_toArray, List.set_cons_zero, List.set_cons_succ])
        refine wpList_plain rfl fun K hK => ?_
        go_simp
        refine hK _ _ ?_
        clear hK K
        (try simp only [Act.put, List.setIfInBounds_toArray, List.set_cons_zero, List.set_cons_succ])
        refine list_store_ag rfl _ _ rfl w4.heap.size Ag.zero z rfl rfl (AgW.zero w4 _) ?_
        refine wpList_nil ?_
        obtain ⟨w18, b14, hw5, hb5, h5⟩ := (HS.out.keep hb4).new z
        (try rw [← hw5])
        (try rw [← hb5])
        replace HS := Lib.hid h5
        clear hw5 hb5 h5 hb4 y0 y1
        go_upto_region 19 with fail
        apply join (T := fun e W => PS w B b7 aM m (C1 : Int) (C0 : Int) ((e, g) :: [(b14, z), (b13, y), (b12, x), (b11, g)]) W)
        · intro hrest
          refine wp_region_held_drew (S := (PS w B b7 aM m (C1 : Int) (C0 : Int) [(b14, z), (b13, y), (b12, x), (b11, g)])) (by kernel_rfl) (HS.out.keep ((Below.refl _ _).drew)) (fun hHeld => ?_)
          generalize hwd : w18.drew = wp at hHeld ⊢
          clear hwd
          have CC := Lib.hid (XO.none w B b7 [(b14, z), (b13, y), (b12, x), (b11, g)] wp)
          refine wpAnyH_take (i := 0) (oi := ?am1o) (v := agV x) ?am1h (by kernel_rfl) (by kernel_rfl) (by kernel_rfl) ?am1q ?am1y hHeld ?am1r
          case am1h => (simp only [List.getElem?_toArray, List.getElem?_cons_zero]; rfl)
          case am1q => exact fun _ _ _ h => h
          case am1y => exact yields_ag (by kernel_rfl) _ rfl b12 x rfl (fun _ h => h.g (b12, x) (by simp))
          try simp only [Act.put, List.setIfInBounds_toArray, List.set_cons_zero, List.set_cons_succ]
          refine wpAnyH_take (i := 1) (oi := ?am2o) (v := agV y) ?am2h (by kernel_rfl) (by kernel_rfl) (by kernel_rfl) ?am2q ?am2y hHeld ?am2r
          case am2h => (simp only [List.getElem?_toArray, List.getElem?_cons_succ, List.getElem?_cons_zero]; rfl)
          case am2q => exact fun _ _ _ h => h
          case am2y => exact yields_ag (by kernel_rfl) _ rfl b13 y rfl (fun _ h => h.g (b13, y) (by simp))
          try simp only [Act.put, List.setIfInBounds_toArray, List.set_cons_zero, List.set_cons_succ]
          refine wpAnyH_take (i := 3) (oi := ?am3o) (v := agV z) ?am3h (by kernel_rfl) (by kernel_rfl) (by kernel_rfl) ?am3q ?am3y hHeld ?am3r
          case am3h => (simp only [List.getElem?_toArray, List.getElem?_cons_succ, List.getElem?_cons_zero]; rfl)
          case am3q => exact fun _ _ _ h => h
          case am3y => exact yields_ag (by kernel_rfl) _ rfl b14 z rfl (fun _ h => h.g (b14, z) (by simp))
          try simp only [Act.put, List.setIfInBounds_toArray, List.set_cons_zero, List.set_cons_succ]
          refine wpAnyH_ready (rs := [2, 5]) (by kernel_rfl) (by simp) ?_
          refine (AllReadyH.cons rfl (fun K hK => ?_) (AllReadyH.cons rfl (fun K hK => ?_) AllReadyH.nil))
          ·
            go_simp
            ((with_reducible refine (mxy _).mono ?_); rintro e w4 ⟨rfl, hb⟩; (have HH := hHeld.keep hb); (replace CC := Lib.hid (CC.out.keep hb)); clear hb)
            refine hK.out _ _ (HH) (fun hHeld => ?_)
            clear hK K
            try simp only [Act.put, List.setIfInBounds_toArray, List.set_cons_zero, List.set_cons_succ]
            refine wpAnyH_ready (rs := [4, 5]) (by kernel_rfl) (by simp) ?_
            refine (AllReadyH.cons rfl (fun K hK => ?_) (AllReadyH.cons rfl (fun K hK => ?_) AllReadyH.nil))
            ·
              go_simp
              ((with_reducible refine (m1z _).mono ?_); rintro e w4 ⟨rfl, hb⟩; (have HH := hHeld.keep hb); (replace CC := Lib.hid (CC.out.keep hb)); clear hb)
              refine hK.out _ _ (HH) (fun hHeld => ?_)
              clear hK K
              try simp only [Act.put, List.setIfInBounds_toArray, List.set_cons_zero, List.set_cons_succ]
              refine wpAnyH_ready (rs := [5]) (by kernel_rfl) (by simp) ?_
              refine (AllReadyH.cons rfl (fun K hK => ?_) AllReadyH.nil)
              go_simp
              (obtain ⟨w4, e4, hw4, he4, HH, C'⟩ := hHeld.box; (try rw [← hw4]); (try rw [← he4]); (replace CC := Lib.hid C'); clear C' hw4 he4)
              refine hK.out _ _ (HH) (fun hHeld => ?_)
              clear hK K
              try simp only [Act.put, List.setIfInBounds_toArray, List.set_cons_zero, List.set_cons_succ]
              refine wpAnyH_ready (rs := [6]) (by kernel_rfl) (by simp) ?_
              refine (AllReadyH.cons rfl (fun K hK => ?_) AllReadyH.nil)
              refine (if_pos (by kernel_rfl)).mpr ?_
              have HH := hHeld.stO CC.out g
              refine store_ag _ _ rfl e4 Ag.zero g rfl rfl (CC.out.e e4 rfl).1 ?_
              refine hK.out _ _ (HH.tail) (fun hHeld => ?_)
              clear hK K
              try simp only [Act.put]
              refine wpAnyH_done (by kernel_rfl) ?_ _
              exact hrest e4 _ HH
            ·
              go_simp
              (obtain ⟨w4, e4, hw4, he4, HH, C'⟩ := hHeld.box; (try rw [← hw4]); (try rw [← he4]); (replace CC := Lib.hid C'); clear C' hw4 he4)
              refine hK.out _ _ (HH) (fun hHeld => ?_)
              clear hK K
              try simp only [Act.put, List.setIfInBounds_toArray, List.set_cons_zero, List.set_cons_succ]
              refine wpAnyH_ready (rs := [4]) (by kernel_rfl) (by simp) ?_
              refine (AllReadyH.cons rfl (fun K hK => ?_) AllReadyH.nil)
              go_simp
              ((with_reducible refine (m1z _).mono ?_); rintro e w4 ⟨rfl, hb⟩; (have HH := hHeld.keep hb); (replace CC := Lib.hid (CC.out.keep hb)); clear hb)
              refine hK.out _ _ (HH) (fun hHeld => ?_)
              clear hK K
              try simp only [Act.put, List.setIfInBounds_toArray, List.set_cons_zero, List.set_cons_succ]
              refine wpAnyH_ready (rs := [6]) (by kernel_rfl) (by simp) ?_
              refine (AllReadyH.cons rfl (fun K hK => ?_) AllReadyH.nil)
              refine (if_pos (by kernel_rfl)).mpr ?_
              have HH := hHeld.stO CC.out g
              refine store_ag _ _ rfl e4 Ag.zero g rfl rfl (CC.out.e e4 rfl).1 ?_
              refine hK.out _ _ (HH.tail) (fun hHeld => ?_)
              clear hK K
              try simp only [Act.put]
              refine wpAnyH_done (by kernel_rfl) ?_ _
              exact hrest e4 _ HH
          ·
            go_simp
            (obtain ⟨w4, e4, hw4, he4, HH, C'⟩ := hHeld.box; (try rw [← hw4]); (try rw [← he4]); (replace CC := Lib.hid C'); clear C' hw4 he4)
            refine hK.out _ _ (HH) (fun hHeld => ?_)
            clear hK K
            try simp only [Act.put, List.setIfInBounds_toArray, List.set_cons_zero, List.set_cons_succ]
            refine wpAnyH_ready (rs := [2]) (by kernel_rfl) (by simp) ?_
            refine (AllReadyH.cons rfl (fun K hK => ?_) AllReadyH.nil)
            go_simp
            ((with_reducible refine (mxy _).mono ?_); rintro e w4 ⟨rfl, hb⟩; (have HH := hHeld.keep hb); (replace CC := Lib.hid (CC.out.keep hb)); clear hb)
            refine hK.out _ _ (HH) (fun hHeld => ?_)
            clear hK K
            try simp only [Act.put, List.setIfInBounds_toArray, List.set_cons_zero, List.set_cons_succ]
            refine wpAnyH_ready (rs := [4]) (by kernel_rfl) (by simp) ?_
            refine (AllReadyH.cons rfl (fun K hK => ?_) AllReadyH.nil)
            go_simp
            ((with_reducible refine (m1z _).mono ?_); rintro e w4 ⟨rfl, hb⟩; (have HH := hHeld.keep hb); (replace CC := Lib.hid (CC.out.keep hb)); clear hb)
            refine hK.out _ _ (HH) (fun hHeld => ?_)
            clear hK K
            try simp only [Act.put, List.setIfInBounds_toArray, List.set_cons_zero, List.set_cons_succ]
            refine wpAnyH_ready (rs := [6]) (by kernel_rfl) (by simp) ?_
            refine (AllReadyH.cons rfl (fun K hK => ?_) AllReadyH.nil)
            refine (if_pos (by kernel_rfl)).mpr ?_
            have HH := hHeld.stO CC.out g
            refine store_ag _ _ rfl e4 Ag.zero g rfl rfl (CC.out.e e4 rfl).1 ?_
            refine hK.out _ _ (HH.tail) (fun hHeld => ?_)
            clear hK K
            try simp only [Act.put]
            refine wpAnyH_done (by kernel_rfl) ?_ _
            exact hrest e4 _ HH
        intro b15 w19 hPS
        replace HS := Lib.hid hPS
        clear hPS
        go_upto_region 20 with fail
        apply join (T := fun e W => PS w B b7 aM m (C1 : Int) (C0 : Int) ((e, g) :: [(b15, g), (b14, z), (b13, y), (b12, x), (b11, g)]) W)
        · intro hrest
          refine wp_region_held_drew (S := (PS w B b7 aM m (C1 : Int) (C0 : Int) [(b15, g), (b14, z), (b13, y), (b12, x), (b11, g)])) (by kernel_rfl) (HS.out.keep ((Below.refl _ _).drew)) (fun hHeld => ?_)
          generalize hwd : w19.drew = wp at hHeld ⊢
          clear hwd
          have CC := Lib.hid (XO.none w B b7 [(b15, g), (b14, z), (b13, y), (b12, x), (b11, g)] wp)
          refine wpAnyH_take (i := 0) (oi := ?an1o) (v := agV x) ?an1h (by kernel_rfl) (by kernel_rfl) (by kernel_rfl) ?an1q ?an1y hHeld ?an1r
          case an1h => (simp only [List.getElem?_toArray, List.getElem?_cons_zero]; rfl)
          case an1q => exact fun _ _ _ h => h
          case an1y => exact yields_ag (by kernel_rfl) _ rfl b12 x rfl (fun _ h => h.g (b12, x) (by simp))
          try simp only [Act.put, List.setIfInBounds_toArray, List.set_cons_zero, List.set_cons_succ]
          refine wpAnyH_take (i := 1) (oi := ?an2o) (v := agV y) ?an2h (by kernel_rfl) (by kernel_rfl) (by kernel_rfl) ?an2q ?an2y hHeld ?an2r
          case an2h => (simp only [List.getElem?_toArray, List.getElem?_cons_succ, List.getElem?_cons_zero]; rfl)
          case an2q => exact fun _ _ _ h => h
          case an2y => exact yields_ag (by kernel_rfl) _ rfl b13 y rfl (fun _ h => h.g (b13, y) (by simp))
          try simp only [Act.put, List.setIfInBounds_toArray, List.set_cons_zero, List.set_cons_succ]
          refine wpAnyH_take (i := 2) (oi := ?an3o) (v := agV z) ?an3h (by kernel_rfl) (by kernel_rfl) (by kernel_rfl) ?an3q ?an3y hHeld ?an3r
          case an3h => (simp only [List.getElem?_toArray, List.getElem?_cons_succ, List.getElem?_cons_zero]; rfl)
          case an3q => exact fun _ _ _ h => h
          case an3y => exact yields_ag (by kernel_rfl) _ rfl b14 z rfl (fun _ h => h.g (b14, z) (by simp))
          try simp only [Act.put, List.setIfInBounds_toArray, List.set_cons_zero, List.set_cons_succ]
          refine wpAnyH_ready (rs := [3, 5]) (by kernel_rfl) (by simp) ?_
          refine (AllReadyH.cons rfl (fun K hK => ?_) (AllReadyH.cons rfl (fun K hK => ?_) AllReadyH.nil))
          ·
            go_simp
            ((with_reducible refine (myz _).mono ?_); rintro e w4 ⟨rfl, hb⟩; (have HH := hHeld.keep hb); (replace CC := Lib.hid (CC.out.keep hb)); clear hb)
            refine hK.out _ _ (HH) (fun hHeld => ?_)
            clear hK K
            try simp only [Act.put, List.setIfInBounds_toArray, List.set_cons_zero, List.set_cons_succ]
            refine wpAnyH_ready (rs := [4, 5]) (by kernel_rfl) (by simp) ?_
            refine (AllReadyH.cons rfl (fun K hK => ?_) (AllReadyH.cons rfl (fun K hK => ?_) AllReadyH.nil))
            ·
              go_simp
              ((with_reducible refine (mx2 _).mono ?_); rintro e w4 ⟨rfl, hb⟩; (have HH := hHeld.keep hb); (replace CC := Lib.hid (CC.out.keep hb)); clear hb)
              refine hK.out _ _ (HH) (fun hHeld => ?_)
              clear hK K
              try simp only [Act.put, List.setIfInBounds_toArray, List.set_cons_zero, List.set_cons_succ]
              refine wpAnyH_ready (rs := [5]) (by kernel_rfl) (by simp) ?_
              refine (AllReadyH.cons rfl (fun K hK => ?_) AllReadyH.nil)
              go_simp
              (obtain ⟨w4, e4, hw4, he4, HH, C'⟩ := hHeld.box; (try rw [← hw4]); (try rw [← he4]); (replace CC := Lib.hid C'); clear C' hw4 he4)
              refine hK.out _ _ (HH) (fun hHeld => ?_)
              clear hK K
              try simp only [Act.put, List.setIfInBounds_toArray, List.set_cons_zero, List.set_cons_succ]
              refine wpAnyH_ready (rs := [6]) (by kernel_rfl) (by simp) ?_
              refine (AllReadyH.cons rfl (fun K hK => ?_) AllReadyH.nil)
              refine (if_pos (by kernel_rfl)).mpr ?_
              have HH := hHeld.stO CC.out g
              refine store_ag _ _ rfl e4 Ag.zero g rfl rfl (CC.out.e e4 rfl).1 ?_
              refine hK.out _ _ (HH.tail) (fun hHeld => ?_)
              clear hK K
              try simp only [Act.put]
              refine wpAnyH_done (by kernel_rfl) ?_ _
              exact hrest e4 _ HH
            ·
              go_simp
              (obtain ⟨w4, e4, hw4, he4, HH, C'⟩ := hHeld.box; (try rw [← hw4]); (try rw [← he4]); (replace CC := Lib.hid C'); clear C' hw4 he4)
              refine hK.out _ _ (HH) (fun hHeld => ?_)
              clear hK K
              try simp only [Act.put, List.setIfInBounds_toArray, List.set_cons_zero, List.set_cons_succ]
              refine wpAnyH_ready (rs := [4]) (by kernel_rfl) (by simp) ?_
              refine (AllReadyH.cons rfl (fun K hK => ?_) AllReadyH.nil)
              go_simp
              ((with_reducible refine (mx2 _).mono ?_); rintro e w4 ⟨rfl, hb⟩; (have HH := hHeld.keep hb); (replace CC := Lib.hid (CC.out.keep hb)); clear hb)
              refine hK.out _ _ (HH) (fun hHeld => ?_)
              clear hK K
              try simp only [Act.put, List.setIfInBounds_toArray, List.set_cons_zero, List.set_cons_succ]
              refine wpAnyH_ready (rs := [6]) (by kernel_rfl) (by simp) ?_
              refine (AllReadyH.cons rfl (fun K hK => ?_) AllReadyH.nil)
              refine (if_pos (by kernel_rfl)).mpr ?_
              have HH := hHeld.stO CC.out g
              refine store_ag _ _ rfl e4 Ag.zero g rfl rfl (CC.out.e e4 rfl).1 ?_
              refine hK.out _ _ (HH.tail) (fun hHeld => ?_)
              clear hK K
              try simp only [Act.put]
              refine wpAnyH_done (by kernel_rfl) ?_ _
              exact hrest e4 _ HH
          ·
            go_simp
            (obtain ⟨w4, e4, hw4, he4, HH, C'⟩ := hHeld.box; (try rw [← hw4]); (try rw [← he4]); (replace CC := Lib.hid C'); clear C' hw4 he4)
            refine hK.out _ _ (HH) (fun hHeld => ?_)
            clear hK K
            try simp only [Act.put, List.setIfInBounds_toArray, List.set_cons_zero, List.set_cons_succ]
            refine wpAnyH_ready (rs := [3]) (by kernel_rfl) (by simp) ?_
            refine (AllReadyH.cons rfl (fun K hK => ?_) AllReadyH.nil)
            go_simp
            ((with_reducible refine (myz _).mono ?_); rintro e w4 ⟨rfl, hb⟩; (have HH := hHeld.keep hb); (replace CC := Lib.hid (CC.out.keep hb)); clear hb)
            refine hK.out _ _ (HH) (fun hHeld => ?_)
            clear hK K
            try simp only [Act.put, List.setIfInBounds_toArray, List.set_cons_zero, List.set_cons_succ]
            refine wpAnyH_ready (rs := [4]) (by kernel_rfl) (by simp) ?_
            refine (AllReadyH.cons rfl (fun K hK => ?_) AllReadyH.nil)
            go_simp
            ((with_reducible refine (mx2 _).mono ?_); rintro e w4 ⟨rfl, hb⟩; (have HH := hHeld.keep hb); (replace CC := Lib.hid (CC.out.keep hb)); clear hb)
            refine hK.out _ _ (HH) (fun hHeld => ?_)
            clear hK K
            try simp only [Act.put, List.setIfInBounds_toArray, List.set_cons_zero, List.set_cons_succ]
            refine wpAnyH_ready (rs := [6]) (by kernel_rfl) (by simp) ?_
            refine (AllReadyH.cons rfl (fun K hK => ?_) AllReadyH.nil)
            refine (if_pos (by kernel_rfl)).mpr ?_
            have HH := hHeld.stO CC.out g
            refine store_ag _ _ rfl e4 Ag.zero g rfl rfl (CC.out.e e4 rfl).1 ?_
            refine hK.out _ _ (HH.tail) (fun hHeld => ?_)
            clear hK K
            try simp only [Act.put]
            refine wpAnyH_done (by kernel_rfl) ?_ _
            exact hrest e4 _ HH
        intro b16 w20 hPS
        replace HS := Lib.hid hPS
        clear hPS
        go_upto_region 21 with fail
        apply join (T := fun e W => PS w B b7 aM m (C1 : Int) (C0 : Int) ((e, g) :: [(b16, g), (b15, g), (b14, z), (b13, y), (b12, x), (b11, g)]) W)
        · intro hrest
          refine wp_region_held_drew (S := (PS w B b7 aM m (C1 : Int) (C0 : Int) [(b16, g), (b15, g), (b14, z), (b13, y), (b12, x), (b11, g)])) (by kernel_rfl) (HS.out.keep ((Below.refl _ _).drew)) (fun hHeld => ?_)
          generalize hwd : w20.drew = wp at hHeld ⊢
          clear hwd
          have CC := Lib.hid (XO.none w B b7 [(b16, g), (b15, g), (b14, z), (b13, y), (b12, x), (b11, g)] wp)
          refine wpAnyH_take (i := 0) (oi := ?ao1o) (v := agV z) ?ao1h (by kernel_rfl) (by kernel_rfl) (by kernel_rfl) ?ao1q ?ao1y hHeld ?ao1r
          case ao1h => (simp only [List.getElem?_toArray, List.getElem?_cons_zero]; rfl)
          case ao1q => exact fun _ _ _ h => h
          case ao1y => exact yields_ag (by kernel_rfl) _ rfl b14 z rfl (fun _ h => h.g (b14, z) (by simp))
          try simp only [Act.put, List.setIfInBounds_toArray, List.set_cons_zero, List.set_cons_succ]
          refine wpAnyH_take (i := 1) (oi := ?ao2o) (v := agV x) ?ao2h (by kernel_rfl) (by kernel_rfl) (by kernel_rfl) ?ao2q ?ao2y hHeld ?ao2r
          case ao2h => (simp only [List.getElem?_toArray, List.getElem?_cons_succ, List.getElem?_cons_zero]; rfl)
          case ao2q => exact fun _ _ _ h => h
          case ao2y => exact yields_ag (by kernel_rfl) _ rfl b12 x rfl (fun _ h => h.g (b12, x) (by simp))
          try simp only [Act.put, List.setIfInBounds_toArray, List.set_cons_zero, List.set_cons_succ]
          refine wpAnyH_take (i := 2) (oi := ?ao3o) (v := agV y) ?ao3h (by kernel_rfl) (by kernel_rfl) (by kernel_rfl) ?ao3q ?ao3y hHeld ?ao3r
          case ao3h => (simp only [List.getElem?_toArray, List.getElem?_cons_succ, List.getElem?_cons_zero]; rfl)
          case ao3q => exact fun _ _ _ h => h
          case ao3y => exact yields_ag (by kernel_rfl) _ rfl b13 y rfl (fun _ h => h.g (b13, y) (by simp))
          try simp only [Act.put, List.setIfInBounds_toArray, List.set_cons_zero, List.set_cons_succ]
          refine wpAnyH_ready (rs := [3, 5]) (by kernel_rfl) (by simp) ?_
          refine (AllReadyH.cons rfl (fun K hK => ?_) (AllReadyH.cons rfl (fun K hK => ?_) AllReadyH.nil))
          ·
            go_simp
            ((with_reducible refine (mxy _).mono ?_); rintro e w4 ⟨rfl, hb⟩; (have HH := hHeld.keep hb); (replace CC := Lib.hid (CC.out.keep hb)); clear hb)
            refine hK.out _ _ (HH) (fun hHeld => ?_)
            clear hK K
            try simp only [Act.put, List.setIfInBounds_toArray, List.set_cons_zero, List.set_cons_succ]
            refine wpAnyH_ready (rs := [4, 5]) (by kernel_rfl) (by simp) ?_
            refine (AllReadyH.cons rfl (fun K hK => ?_) (AllReadyH.cons rfl (fun K hK => ?_) AllReadyH.nil))
            ·
              go_simp
              ((with_reducible refine (mz1 _).mono ?_); rintro e w4 ⟨rfl, hb⟩; (have HH := hHeld.keep hb); (replace CC := Lib.hid (CC.out.keep hb)); clear hb)
              refine hK.out _ _ (HH) (fun hHeld => ?_)
              clear hK K
              try simp only [Act.put, List.setIfInBounds_toArray, List.set_cons_zero, List.set_cons_succ]
              refine wpAnyH_ready (rs := [5]) (by kernel_rfl) (by simp) ?_
              refine (AllReadyH.cons rfl (fun K hK => ?_) AllReadyH.nil)
              go_simp
              (obtain ⟨w4, e4, hw4, he4, HH, C'⟩ := hHeld.box; (try rw [← hw4]); (try rw [← he4]); (replace CC := Lib.hid C'); clear C' hw4 he4)
              refine hK.out _ _ (HH) (fun hHeld => ?_)
              clear hK K
              try simp only [Act.put, List.setIfInBounds_toArray, List.set_cons_zero, List.set_cons_succ]
              refine wpAnyH_ready (rs := [6]) (by kernel_rfl) (by simp) ?_
              refine (AllReadyH.cons rfl (fun K hK => ?_) AllReadyH.nil)
              refine (if_pos (by kernel_rfl)).mpr ?_
              have HH := hHeld.stO CC.out g
              refine store_ag _ _ rfl e4 Ag.zero g rfl rfl (CC.out.e e4 rfl).1 ?_
              refine hK.out _ _ (HH.tail) (fun hHeld => ?_)
              clear hK K
              try simp only [Act.put]
              refine wpAnyH_done (by kernel_rfl) ?_ _
              exact hrest e4 _ HH
            ·
              go_simp
              (obtain ⟨w4, e4, hw4, he4, HH, C'⟩ := hHeld.box; (try rw [← hw4]); (try rw [← he4]); (replace CC := Lib.hid C'); clear C' hw4 he4)
              refine hK.out _ _ (HH) (fun hHeld => ?_)
              clear hK K
              try simp only [Act.put, List.setIfInBounds_toArray, List.set_cons_zero, List.set_cons_succ]
              refine wpAnyH_ready (rs := [4]) (by kernel_rfl) (by simp) ?_
              refine (AllReadyH.cons rfl (fun K hK => ?_) AllReadyH.nil)
              go_simp
              ((with_reducible refine (mz1 _).mono ?_); rintro e w4 ⟨rfl, hb⟩; (have HH := hHeld.keep hb); (replace CC := Lib.hid (CC.out.keep hb)); clear hb)
              refine hK.out _ _ (HH) (fun hHeld => ?_)
              clear hK K
              try simp only [Act.put, List.setIfInBounds_toArray, List.set_cons_zero, List.set_cons_succ]
              refine wpAnyH_ready (rs := [6]) (by kernel_rfl) (by simp) ?_
              refine (AllReadyH.cons rfl (fun K hK => ?_) AllReadyH.nil)
              refine (if_pos (by kernel_rfl)).mpr ?_
              have HH := hHeld.stO CC.out g
              refine store_ag _ _ rfl e4 Ag.zero g rfl rfl (CC.out.e e4 rfl).1 ?_
              refine hK.out _ _ (HH.tail) (fun hHeld => ?_)
              clear hK K
              try simp only [Act.put]
              refine wpAnyH_done (by kernel_rfl) ?_ _
              exact hrest e4 _ HH
          ·
            go_simp
            (obtain ⟨w4, e4, hw4, he4, HH, C'⟩ := hHeld.box; (try rw [← hw4]); (try rw [← he4]); (replace CC := Lib.hid C'); clear C' hw4 he4)
            refine hK.out _ _ (HH) (fun hHeld => ?_)
            clear hK K
            try simp only [Act.put, List.setIfInBounds_toArray, List.set_cons_zero, List.set_cons_succ]
            refine wpAnyH_ready (rs := [3]) (by kernel_rfl) (by simp) ?_
            refine (AllReadyH.cons rfl (fun K hK => ?_) AllReadyH.nil)
            go_simp
            ((with_reducible refine (mxy _).mono ?_); rintro e w4 ⟨rfl, hb⟩; (have HH := hHeld.keep hb); (replace CC := Lib.hid (CC.out.keep hb)); clear hb)
            refine hK.out _ _ (HH) (fun hHeld => ?_)
            clear hK K
            try simp only [Act.put, List.setIfInBounds_toArray, List.set_cons_zero, List.set_cons_succ]
            refine wpAnyH_ready (rs := [4]) (by kernel_rfl) (by simp) ?_
            refine (AllReadyH.cons rfl (fun K hK => ?_) AllReadyH.nil)
            go_simp
            ((with_reducible refine (mz1 _).mono ?_); rintro e w4 ⟨rfl, hb⟩; (have HH := hHeld.keep hb); (replace CC := Lib.hid (CC.out.keep hb)); clear hb)
            refine hK.out _ _ (HH) (fun hHeld => ?_)
            clear hK K
            try simp only [Act.put, List.setIfInBounds_toArray, List.set_cons_zero, List.set_cons_succ]
            refine wpAnyH_ready (rs := [6]) (by kernel_rfl) (by simp) ?_
            refine (AllReadyH.cons rfl (fun K hK => ?_) AllReadyH.nil)
            refine (if_pos (by kernel_rfl)).mpr ?_
            have HH := hHeld.stO CC.out g
            refine store_ag _ _ rfl e4 Ag.zero g rfl rfl (CC.out.e e4 rfl).1 ?_
            refine hK.out _ _ (HH.tail) (fun hHeld => ?_)
            clear hK K
            try simp only [Act.put]
            refine wpAnyH_done (by kernel_rfl) ?_ _
            exact hrest e4 _ HH
        intro b17 w21 hPS
        replace HS := Lib.hid hPS
        clear hPS
        go_upto_region 22 with fail
        apply join (T := fun e W => PS w B b7 aM m (C1 : Int) (C0 : Int) ((e, g) :: [(b17, g), (b16, g), (b15, g), (b14, z), (b13, y), (b12, x), (b11, g)]) W)
        · intro hrest
          refine wp_region_held_drew (S := (PS w B b7 aM m (C1 : Int) (C0 : Int) [(b17, g), (b16, g), (b15, g), (b14, z), (b13, y), (b12, x), (b11, g)])) (by kernel_rfl) (HS.out.keep ((Below.refl _ _).drew)) (fun hHeld => ?_)
          generalize hwd : w21.drew = wp at hHeld ⊢
          clear hwd
          have CC := Lib.hid (XO.none w B b7 [(b17, g), (b16, g), (b15, g), (b14, z), (b13, y), (b12, x), (b11, g)] wp)
          refine wpAnyH_take (i := 0) (oi := ?ap1o) (v := agV y) ?ap1h (by kernel_rfl) (by kernel_rfl) (by kernel_rfl) ?ap1q ?ap1y hHeld ?ap1r
          case ap1h => (simp only [List.getElem?_toArray, List.getElem?_cons_zero]; rfl)
          case ap1q => exact fun _ _ _ h => h
          case ap1y => exact yields_ag (by kernel_rfl) _ rfl b13 y rfl (fun _ h => h.g (b13, y) (by simp))
          try simp only [Act.put, List.setIfInBounds_toArray, List.set_cons_zero, List.set_cons_succ]
          refine wpAnyH_take (i := 1) (oi := ?ap2o) (v := agV z) ?ap2h (by kernel_rfl) (by kernel_rfl) (by kernel_rfl) ?ap2q ?ap2y hHeld ?ap2r
          case ap2h => (simp only [List.getElem?_toArray, List.getElem?_cons_succ, List.getElem?_cons_zero]; rfl)
          case ap2q => exact fun _ _ _ h => h
          case ap2y => exact yields_ag (by kernel_rfl) _ rfl b14 z rfl (fun _ h => h.g (b14, z) (by simp))
          try simp only [Act.put, List.setIfInBounds_toArray, List.set_cons_zero, List.set_cons_succ]
          refine wpAnyH_take (i := 3) (oi := ?ap3o) (v := agV x) ?ap3h (by kernel_rfl) (by kernel_rfl) (by kernel_rfl) ?ap3q ?ap3y hHeld ?ap3r
          case ap3h => (simp only [List.getElem?_toArray, List.getElem?_cons_succ, List.getElem?_cons_zero]; rfl)
          case ap3q => exact fun _ _ _ h => h
          case ap3y => exact yields_ag (by kernel_rfl) _ rfl b12 x rfl (fun _ h => h.g (b12, x) (by simp))
          try simp only [Act.put, List.setIfInBounds_toArray, List.set_cons_zero, List.set_cons_succ]
          refine wpAnyH_ready (rs := [2, 5]) (by kernel_rfl) (by simp) ?_
          refine (AllReadyH.cons rfl (fun K hK => ?_) (AllReadyH.cons rfl (fun K hK => ?_) AllReadyH.nil))
          ·
            go_simp
            ((with_reducible refine (myz _).mono ?_); rintro e w4 ⟨rfl, hb⟩; (have HH := hHeld.keep hb); (replace CC := Lib.hid (CC.out.keep hb)); clear hb)
            refine hK.out _ _ (HH) (fun hHeld => ?_)
            clear hK K
            try simp only [Act.put, List.setIfInBounds_toArray, List.set_cons_zero, List.set_cons_succ]
            refine wpAnyH_ready (rs := [4, 5]) (by kernel_rfl) (by simp) ?_
            refine (AllReadyH.cons rfl (fun K hK => ?_) (AllReadyH.cons rfl (fun K hK => ?_) AllReadyH.nil))
            ·
              go_simp
              ((with_reducible refine (m2x _).mono ?_); rintro e w4 ⟨rfl, hb⟩; (have HH := hHeld.keep hb); (replace CC := Lib.hid (CC.out.keep hb)); clear hb)
              refine hK.out _ _ (HH) (fun hHeld => ?_)
              clear hK K
              try simp only [Act.put, List.setIfInBounds_toArray, List.set_cons_zero, List.set_cons_succ]
              refine wpAnyH_ready (rs := [5]) (by kernel_rfl) (by simp) ?_
              refine (AllReadyH.cons rfl (fun K hK => ?_) AllReadyH.nil)
              go_simp
              (obtain ⟨w4, e4, hw4, he4, HH, C'⟩ := hHeld.box; (try rw [← hw4]); (try rw [← he4]); (replace CC := Lib.hid C'); clear C' hw4 he4)
              refine hK.out _ _ (HH) (fun hHeld => ?_)
              clear hK K
              try simp only [Act.put, List.setIfInBounds_toArray, List.set_cons_zero, List.set_cons_succ]
              refine wpAnyH_ready (rs := [6]) (by kernel_rfl) (by simp) ?_
              refine (AllReadyH.cons rfl (fun K hK => ?_) AllReadyH.nil)
              refine (if_pos (by kernel_rfl)).mpr ?_
              have HH := hHeld.stO CC.out g
              refine store_ag _ _ rfl e4 Ag.zero g rfl rfl (CC.out.e e4 rfl).1 ?_
              refine hK.out _ _ (HH.tail) (fun hHeld => ?_)
              clear hK K
              try simp only [Act.put]
              refine wpAnyH_done (by kernel_rfl) ?_ _
              exact hrest e4 _ HH
            ·
              go_simp
              (obtain ⟨w4, e4, hw4, he4, HH, C'⟩ := hHeld.box; (try rw [← hw4]); (try rw [← he4]); (replace CC := Lib.hid C'); clear C' hw4 he4)
              refine hK.out _ _ (HH) (fun hHeld => ?_)
              clear hK K
              try simp only [Act.put, List.setIfInBounds_toArray, List.set_cons_zero, List.set_cons_succ]
              refine wpAnyH_ready (rs := [4]) (by kernel_rfl) (by simp) ?_
              refine (AllReadyH.cons rfl (fun K hK => ?_) AllReadyH.nil)
              go_simp
              ((with_reducible refine (m2x _).mono ?_); rintro e w4 ⟨rfl, hb⟩; (have HH := hHeld.keep hb); (replace CC := Lib.hid (CC.out.keep hb)); clear hb)
              refine hK.out _ _ (HH) (fun hHeld => ?_)
              clear hK K
              try simp only [Act.put, List.setIfInBounds_toArray, List.set_cons_zero, List.set_cons_succ]
              refine wpAnyH_ready (rs := [6]) (by kernel_rfl) (by simp) ?_
              refine (AllReadyH.cons rfl (fun K hK => ?_) AllReadyH.nil)
              refine (if_pos (by kernel_rfl)).mpr ?_
              have HH := hHeld.stO CC.out g
              refine store_ag _ _ rfl e4 Ag.zero g rfl rfl (CC.out.e e4 rfl).1 ?_
              refine hK.out _ _ (HH.tail) (fun hHeld => ?_)
              clear hK K
              try simp only [Act.put]
              refine wpAnyH_done (by kernel_rfl) ?_ _
              exact hrest e4 _ HH
          ·
            go_simp
            (obtain ⟨w4, e4, hw4, he4, HH, C'⟩ := hHeld.box; (try rw [← hw4]); (try rw [← he4]); (replace CC := Lib.hid C'); clear C' hw4 he4)
            refine hK.out _ _ (HH) (fun hHeld => ?_)
            clear hK K
            try simp only [Act.put, List.setIfInBounds_toArray, List.set_cons_zero, List.set_cons_succ]
            refine wpAnyH_ready (rs := [2]) (by kernel_rfl) (by simp) ?_
            refine (AllReadyH.cons rfl (fun K hK => ?_) AllReadyH.nil)
            go_simp
            ((with_reducible refine (myz _).mono ?_); rintro e w4 ⟨rfl, hb⟩; (have HH := hHeld.keep hb); (replace CC := Lib.hid (CC.out.keep hb)); clear hb)
            refine hK.out _ _ (HH) (fun hHeld => ?_)
            clear hK K
            try simp only [Act.put, List.setIfInBounds_toArray, List.set_cons_zero, List.set_cons_succ]
            refine wpAnyH_ready (rs := [4]) (by kernel_rfl) (by simp) ?_
            refine (AllReadyH.cons rfl (fun K hK => ?_) AllReadyH.nil)
            go_simp
            ((with_reducible refine (m2x _).mono ?_); rintro e w4 ⟨rfl, hb⟩; (have HH := hHeld.keep hb); (replace CC := Lib.hid (CC.out.keep hb)); clear hb)
            refine hK.out _ _ (HH) (fun hHeld => ?_)
            clear hK K
            try simp only [Act.put, List.setIfInBounds_toArray, List.set_cons_zero, List.set_cons_succ]
            refine wpAnyH_ready (rs := [6]) (by kernel_rfl) (by simp) ?_
            refine (AllReadyH.cons rfl (fun K hK => ?_) AllReadyH.nil)
            refine (if_pos (by kernel_rfl)).mpr ?_
            have HH := hHeld.stO CC.out g
            refine store_ag _ _ rfl e4 Ag.zero g rfl rfl (CC.out.e e4 rfl).1 ?_
            refine hK.out _ _ (HH.tail) (fun hHeld => ?_)
            clear hK K
            try simp only [Act.put]
            refine wpAnyH_done (by kernel_rfl) ?_ _
            exact hrest e4 _ HH
        intro b18 w22 hPS
        replace HS := Lib.hid hPS
        clear hPS
        go_upto_region 23 with fail
        refine wp_region_lit ?_
        refine list_load_ag rfl _ rfl b11 g rfl (HS.out.g (b11, g) (by simp)) ?_
        refine wpList_plain rfl fun K hK => ?_
        go_simp
        ((with_reducible refine (kb _).mono ?_); rintro e w4 ⟨rfl, hb4⟩)
        refine hK _ _ ?_
        clear hK K
        (try simp only [Act.put, List.setIfInBounds_toArray, List.set_cons_zero, List.set_cons_succ])
        refine wpList_plain rfl fun K hK => ?_
        go_simp
        refine hK _ _ ?_
        clear hK K
        (try simp only [Act.put, List.setIfInBounds_toArray, List.set_cons_zero, List.set_cons_succ])
        refine wpList_plain rfl fun K hK => ?_
        go_simp
        refine hK _ _ ?_
        clear hK K
        (try simp only [Act.put, List.setIfInBounds_toArray, List.set_cons_zero, List.set_cons_succ])
        refine wpList_plain rfl fun K hK => ?_
        go_simp
        refine hK _ _ ?_
        clear hK K
        (try simp only [Act.put, List.setIfInBounds_toArray, List.set_cons_zero, List.set_cons_succ])
        refine wpList_plain rfl fun K hK => ?_
        go_simp
        refine hK _ _ ?_
        clear hK K
        (try simp only [Act.put, List.setIfInBounds_toArray, List.set_cons_zero, List.set_cons_succ])
        refine wpList_plain rfl fun K hK => ?_
        go_simp
        refine hK _ _ ?_
        clear hK K
        (try simp only [Act.put, List.setIfInBounds_toArray, List.set_cons_zero, List.set_cons_succ])
        refine wpList_nil ?_
        replace HS := Lib.hid (HS.out.keep hb4)
        clear hb4
        go_upto_region 24 with fail
        refine wp_region_lit ?_
        refine wpList_plain rfl fun K hK => ?_
        go_simp
        refine hK _ _ ?_
        clear hK K
        (try simp only [Act.put, List.setIfInBounds_toArray, List.set_cons_zero, List.set_cons_succ])
        refine wpList_plain rfl fun K hK => ?_
        go_simp
        ((with_reducible refine (kr _).mono ?_); rintro e w7 ⟨rfl, hb7⟩)
        refine hK _ _ ?_
        clear hK K
        (try simp only [Act.put, List.setIfInBounds_toArray, List.set_cons_zero, List.set_cons_succ])
        refine wpList_plain rfl fun K hK => ?_
        go_simp
        refine hK _ _ ?_
        clear hK K
        (try simp only [Act.put, List.setIfInBounds_toArray, List.set_cons_zero, List.set_cons_succ])
        refine wpList_plain rfl fun K hK => ?_
        go_simp
        refine hK _ _ ?_
        clear hK K
        (try simp only [Act.put, List.setIfInBounds_toArray, List.set_cons_zero, List.set_cons_succ])
        refine wpList_plain rfl fun K hK => ?_
        go_simp
        refine hK _ _ ?_
        clear hK K
        (try simp only [Act.put, List.setIfInBounds_toArray, List.set_cons_zero, List.set_cons_succ])
        refine wpList_plain rfl fun K hK => ?_
        go_simp
        refine hK _ _ ?_
        clear hK K
        (try simp only [Act.put, List.setIfInBounds_toArray, List.set_cons_zero, List.set_cons_succ])
        refine list_store_ag rfl _ _ rfl w7.heap.size Ag.zero g rfl rfl (AgW.zero w7 _) ?_
        obtain ⟨w24, b21, hw5, hb5, h5⟩ := (HS.out.keep hb7).new g
        (try rw [← hw5])
        (try rw [← hb5])
        replace HS := Lib.hid h5
        clear hw5 hb5 h5 hb7
        refine wpList_plain rfl fun K hK => ?_
        go_simp
        refine hK _ _ ?_
        clear hK K
        (try simp only [Act.put, List.setIfInBounds_toArray, List.set_cons_zero, List.set_cons_succ])
        refine wpList_nil ?_
        go_upto_region 25 with fail
        have x0 := (HS.out.g (b11, g) (by simp)).cell 0 rfl
        rw [hgn] at x0
        refine wp_region_lit ?_
        refine wpList_plain rfl fun K hK => ?_
        go_simp
        refine hK _ _ ?_
        clear hK K
        (try simp only [Act.put, List.setIfInBounds_toArray, List.set_cons_zero, List.set_cons_succ])
        refine wpList_plain rfl fun K hK => ?_
        go_simp
        refine hK _ _ ?_
        clear hK K
        (try simp only [Act.put, List.setIfInBounds_toArray, List.set_cons_zero, List.set_cons_succ])
        refine wpList_step fun K hK => ?_
        refine (if_pos (by kernel_rfl)).mpr ?_
        refine load_ag _ rfl b11 g rfl (HS.out.g (b11, g) (by simp)) ?_
        refine hK _ _ ?_
        clear hK K
        (try simp only [Act.put, List.setIfInBounds_toArray, List.set_cons_zero, List.set_cons_succ])
        refine wpList_step fun K hK => ?_
        refine (if_pos (by kernel_rfl)).mpr ?_
        refine load_ag _ rfl b15 g rfl (HS.out.g (b15, g) (by simp)) ?_
        refine hK _ _ ?_
        clear hK K
        (try simp only [Act.put, List.setIfInBounds_toArray, List.set_cons_zero, List.set_cons_succ])
        refine wpList_step fun K hK => ?_
        refine (if_pos (by kernel_rfl)).mpr ?_
        go_simp
        refine hK _ _ ?_
        clear hK K
        (try simp only [Act.put, List.setIfInBounds_toArray, List.set_cons_zero, List.set_cons_succ])
        refine wpList_plain rfl fun K hK => ?_
        go_simp
        refine hK _ _ ?_
        clear hK K
        (try simp only [Act.put, List.setIfInBounds_toArray, List.set_cons_zero, List.set_cons_succ])
        refine wpList_plain rfl fun K hK => ?_
        go_simp
        refine hK _ _ ?_
        clear hK K
        (try simp only [Act.put, List.setIfInBounds_toArray, List.set_cons_zero, List.set_cons_succ])
        refine wpList_step fun K hK => ?_
        refine (if_pos (by kernel_rfl)).mpr ?_
        refine load_ag _ rfl b11 g rfl (HS.out.g (b11, g) (by simp)) ?_
        refine hK _ _ ?_
        clear hK K
        (try simp only [Act.put, List.setIfInBounds_toArray, List.set_cons_zero, List.set_cons_succ])
        refine wpList_step fun K hK => ?_
        refine (if_pos (by kernel_rfl)).mpr ?_
        refine load_ag _ rfl b16 g rfl (HS.out.g (b16, g) (by simp)) ?_
        refine hK _ _ ?_
        clear hK K
        (try simp only [Act.put, List.setIfInBounds_toArray, List.set_cons_zero, List.set_cons_succ])
        refine wpList_step fun K hK => ?_
        refine (if_pos (by kernel_rfl)).mpr ?_
        go_simp
        refine hK _ _ ?_
        clear hK K
        (try simp only [Act.put, List.setIfInBounds_toArray, List.set_cons_zero, List.set_cons_succ])
        refine wpList_plain rfl fun K hK => ?_
        go_simp
        refine hK _ _ ?_
        clear hK K
        (try simp only [Act.put, List.setIfInBounds_toArray, List.set_cons_zero, List.set_cons_succ])
        refine wpList_plain rfl fun K hK => ?_
        go_simp
        refine hK _ _ ?_
        clear hK K
        (try simp only [Act.put, List.setIfInBounds_toArray, List.set_cons_zero, List.set_cons_succ])
        refine wpList_step fun K hK => ?_
        refine (if_pos (by kernel_rfl)).mpr ?_
        refine load_ag _ rfl b11 g rfl (HS.out.g (b11, g) (by simp)) ?_
        refine hK _ _ ?_
        clear hK K
        (try simp only [Act.put, List.setIfInBounds_toArray, List.set_cons_zero, List.set_cons_succ])
        refine wpList_step fun K hK => ?_
        refine (if_pos (by kernel_rfl)).mpr ?_
        refine load_ag _ rfl b17 g rfl (HS.out.g (b17, g) (by simp)) ?_
        refine hK _ _ ?_
        clear hK K
        (try simp only [Act.put, List.setIfInBounds_toArray, List.set_cons_zero, List.set_cons_succ])
        refine wpList_step fun K hK => ?_
        refine (if_pos (by kernel_rfl)).mpr ?_
        go_simp
        refine hK _ _ ?_
        clear hK K
        (try simp only [Act.put, List.setIfInBounds_toArray, List.set_cons_zero, List.set_cons_succ])
        refine wpList_plain rfl fun K hK => ?_
        go_simp
        refine hK _ _ ?_
        clear hK K
        (try simp only [Act.put, List.setIfInBounds_toArray, List.set_cons_zero, List.set_cons_succ])
        refine wpList_plain rfl fun K hK => ?_
        go_simp
        refine hK _ _ ?_
        clear hK K
        (try simp only [Act.put, List.setIfInBounds_toArray, List.set_cons_zero, List.set_cons_succ])
        refine wpList_step fun K hK => ?_
        refine (if_pos (by kernel_rfl)).mpr ?_
        refine load_ag _ rfl b11 g rfl (HS.out.g (b11, g) (by simp)) ?_
        refine hK _ _ ?_
        clear hK K
        (try simp only [Act.put, List.setIfInBounds_toArray, List.set_cons_zero, List.set_cons_succ])
        refine wpList_step fun K hK => ?_
        refine (if_pos (by kernel_rfl)).mpr ?_
        refine load_ag _ rfl b18 g rfl (HS.out.g (b18, g) (by simp)) ?_
        refine hK _ _ ?_
        clear hK K
        (try simp only [Act.put, List.setIfInBounds_toArray, List.set_cons_zero, List.set_cons_succ])
        refine wpList_step fun K hK => ?_
        refine (if_pos (by kernel_rfl)).mpr ?_
        go_simp
        refine hK _ _ ?_
        clear hK K
        (try simp only [Act.put, List.setIfInBounds_toArray, List.set_cons_zero, List.set_cons_succ])
        refine wpList_plain rfl fun K hK => ?_
        go_simp
        refine hK _ _ ?_
        clear hK K
        (try simp only [Act.put, List.setIfInBounds_toArray, List.set_cons_zero, List.set_cons_succ])
        refine wpList_plain rfl fun K hK => ?_
        go_simp
        refine hK _ _ ?_
        clear hK K
        (try simp only [Act.put, List.setIfInBounds_toArray, List.set_cons_zero, List.set_cons_succ])
        refine wpList_step fun K hK => ?_
        refine (if_pos (by kernel_rfl)).mpr ?_
        go_simp
        refine hK _ _ ?_
        clear hK K
        (try simp only [Act.put, List.setIfInBounds_toArray, List.set_cons_zero, List.set_cons_succ])
        refine wpList_step fun K hK => ?_
        refine (if_pos (by kernel_rfl)).mpr ?_
        go_simp
        refine hK _ _ ?_
        clear hK K
        (try simp only [Act.put, List.setIfInBounds_toArray, List.set_cons_zero, List.set_cons_succ])
        refine wpList_step fun K hK => ?_
        refine (if_pos (by kernel_rfl)).mpr ?_
        go_simp
        refine hK _ _ ?_
        clear hK K
        (try simp only [Act.put, List.setIfInBounds_toArray, List.set_cons_zero, List.set_cons_succ])
        refine wpList_step fun K hK => ?_
        refine (if_pos (by kernel_rfl)).mpr ?_
        go_simp
        refine hK _ _ ?_
        clear hK K
        (try simp only [Act.put, List.setIfInBounds_toArray, List.set_cons_zero, List.set_cons_succ])
        refine wpList_step fun K hK => ?_
        refine (if_pos (by kernel_rfl)).mpr ?_
        go_simp
        refine hK _ _ ?_
        clear hK K
        (try simp only [Act.put, List.setIfInBounds_toArray, List.set_cons_zero, List.set_cons_succ])
        refine wpList_plain rfl fun K hK => ?_
        go_simp
        refine hK _ _ ?_
        clear hK K
        (try simp only [Act.put, List.setIfInBounds_toArray, List.set_cons_zero, List.set_cons_succ])
        refine wpList_plain rfl fun K hK => ?_
        go_simp
        refine hK _ _ ?_
        clear hK K
        (try simp only [Act.put, List.setIfInBounds_toArray, List.set_cons_zero, List.set_cons_succ])
        refine wpList_step fun K hK => ?_
        refine (if_pos (by kernel_rfl)).mpr ?_
        refine load_ag _ rfl b11 g rfl (HS.out.g (b11, g) (by simp)) ?_
        refine hK _ _ ?_
        clear hK K
        (try simp only [Act.put, List.setIfInBounds_toArray, List.set_cons_zero, List.set_cons_succ])
        refine wpList_step fun K hK => ?_
        refine (if_pos (by kernel_rfl)).mpr ?_
        go_simp
        ((with_reducible refine (kd _).mono ?_); rintro e w9 ⟨rfl, hb9⟩; (replace HS := Lib.hid (HS.out.keep hb9)); clear hb9 x0)
        refine hK _ _ ?_
        clear hK K
        (try simp only [Act.put, List.setIfInBounds_toArray, List.set_cons_zero, List.set_cons_succ])
        refine wpList_step fun K hK => ?_
        refine (if_pos (by kernel_rfl)).mpr ?_
        go_simp
        refine hK _ _ ?_
        clear hK K
        (try simp only [Act.put, List.setIfInBounds_toArray, List.set_cons_zero, List.set_cons_succ])
        refine wpList_plain rfl fun K hK => ?_
        go_simp
        refine hK _ _ ?_
        clear hK K
        (try simp only [Act.put, List.setIfInBounds_toArray, List.set_cons_zero, List.set_cons_succ])
        refine wpList_plain rfl fun K hK => ?_
        go_simp
        refine hK _ _ ?_
        clear hK K
        (try simp only [Act.put, List.setIfInBounds_toArray, List.set_cons_zero, List.set_cons_succ])
        refine wpList_step fun K hK => ?_
        refine (if_pos (by kernel_rfl)).mpr ?_
        go_simp
        refine hK _ _ ?_
        clear hK K
        (try simp only [Act.put, List.setIfInBounds_toArray, List.set_cons_zero, List.set_cons_succ])
        refine wpList_step fun K hK => ?_
        refine (if_pos (by kernel_rfl)).mpr ?_
        go_simp
        refine hK _ _ ?_
        clear hK K
        (try simp only [Act.put, List.setIfInBounds_toArray, List.set_cons_zero, List.set_cons_succ])
        refine wpList_plain rfl fun K hK => ?_
        go_simp
        refine hK _ _ ?_
        clear hK K
        (try simp only [Act.put, List.setIfInBounds_toArray, List.set_cons_zero, List.set_cons_succ])
        refine wpList_plain rfl fun K hK => ?_
        go_simp
        refine hK _ _ ?_
        clear hK K
        (try simp only [Act.put, List.setIfInBounds_toArray, List.set_cons_zero, List.set_cons_succ])
        refine wpList_step fun K hK => ?_
        refine (if_pos (by kernel_rfl)).mpr ?_
        go_simp
        refine hK _ _ ?_
        clear hK K
        (try simp only [Act.put, List.setIfInBounds_toArray, List.set_cons_zero, List.set_cons_succ])
        refine wpList_step fun K hK => ?_
        refine (if_pos (by kernel_rfl)).mpr ?_
        go_simp
        refine hK _ _ ?_
        clear hK K
        (try simp only [Act.put, List.setIfInBounds_toArray, List.set_cons_zero, List.set_cons_succ])
        refine wpList_plain rfl fun K hK => ?_
        go_simp
        refine hK _ _ ?_
        clear hK K
        (try simp only [Act.put, List.setIfInBounds_toArray, List.set_cons_zero, List.set_cons_succ])
        refine wpList_plain rfl fun K hK => ?_
        go_simp
        refine hK _ _ ?_
        clear hK K
        (try simp only [Act.put, List.setIfInBounds_toArray, List.set_cons_zero, List.set_cons_succ])
        refine wpList_step fun K hK => ?_
        refine (if_pos (by kernel_rfl)).mpr ?_
        refine load_ag _ rfl b21 g rfl (HS.out.g (b21, g) (by simp)) ?_
        refine hK _ _ ?_
        clear hK K
        (try simp only [Act.put, List.setIfInBounds_toArray, List.set_cons_zero, List.set_cons_succ])
        refine wpList_step fun K hK => ?_
        refine (if_pos (by kernel_rfl)).mpr ?_
        refine load_ag _ rfl b11 g rfl (HS.out.g (b11, g) (by simp)) ?_
        refine hK _ _ ?_
        clear hK K
        (try simp only [Act.put, List.setIfInBounds_toArray, List.set_cons_zero, List.set_cons_succ])
        refine wpList_step fun K hK => ?_
        refine (if_pos (by kernel_rfl)).mpr ?_
        go_simp
        refine hK _ _ ?_
        clear hK K
        (try simp only [Act.put, List.setIfInBounds_toArray, List.set_cons_zero, List.set_cons_succ])
        refine wpList_plain rfl fun K hK => ?_
        go_simp
        refine hK _ _ ?_
        clear hK K
        (try simp only [Act.put, List.setIfInBounds_toArray, List.set_cons_zero, List.set_cons_succ])
        refine wpList_plain rfl fun K hK => ?_
        go_simp
        refine hK _ _ ?_
        clear hK K
        (try simp only [Act.put, List.setIfInBounds_toArray, List.set_cons_zero, List.set_cons_succ])
        refine wpList_nil ?_
        have hbel := HS.out.bel
        go_wp2
        go_ret
        exact ⟨rfl, hbel⟩
      · have hcmp : decide (C1 < C0) = false := decide_eq_false (by omega)
        have hle : C0 ≤ C1 := hge
        have y0 := HR.out.c0
        have y1 := HR.out.c1
        have z0 := HR.out.z0
        have z1 := HR.out.z1
        have u1 : (0 : Int) ≤ (C0 : Int) := by omega
        have u2 : (0 : Int) ≤ (C1 : Int) := by omega
        clear hge
        go_upto_region 15 with fail
        obtain ⟨w14, hw14, h14⟩ := ps_name HR.out.ps
        rw [← hw14]
        have HS := Lib.hid h14
        clear hw14 h14 y0 y1 z0 z1 HR hcmp
        obtain ⟨hpt, hft, hfd, hfy⟩ := HDATA.out
        obtain ⟨p1, p2, p3, p4, p5, p6⟩ := hpt C0 C1 hle
        have fx := foldA_fits (hft C0)
        have fy := foldA_fits (hfy C0 (C1 - C0))
        have fz := foldA_fits (hfd C1)
        have f1 := foldA_fits (hft C1)
        have f2 := foldA_fits (hfd C0)
        obtain ⟨aX, cX, sx, px⟩ := cut_head aM n cM C0 HCM.out hc0
        obtain ⟨aY, cY, sy, py⟩ := cut_mid aM n cM C0 C1 HCM.out hle hc1
        obtain ⟨aZ, cZ, sz, pz⟩ := cut_tail aM n cM C1 HCM.out hc1
        have kx := fun W (hp : Pts W W.heap.size aM m) => kft C0 aX cX W hc0 (px hp HM.out)
        have ky := fun W (hp : Pts W W.heap.size aM m) => kfy C0 C1 aY cY W hle hc1 (py hp HM.out)
        have kz := fun W (hp : Pts W W.heap.size aM m) => kfd C1 aZ cZ W hc1 (pz hp HM.out)
        obtain ⟨x, hx⟩ : ∃ x, foldA (m.take C0) = x := ⟨_, rfl⟩
        obtain ⟨y, hy⟩ : ∃ y, foldA ((m.drop C0).take (C1 - C0)) = y := ⟨_, rfl⟩
        obtain ⟨z, hz⟩ : ∃ z, foldA (m.drop C1) = z := ⟨_, rfl⟩
        obtain ⟨g1, hg1⟩ : ∃ z, foldA (m.take C1) = z := ⟨_, rfl⟩
        obtain ⟨g2, hg2⟩ : ∃ z, foldA (m.drop C0) = z := ⟨_, rfl⟩
        rw [hx] at kx fx p1 p4 p6
        rw [hy] at ky fy p1 p2
        rw [hz] at kz fz p2 p3 p5
        rw [hg1] at f1 p1 p3 p5
        rw [hg2] at f2 p2 p4 p6
        rw [hg] at p3 p4 p5 p6
        have mxy := fun W => merge_is x y fx fy W
        have myz := fun W => merge_is y z fy fz W
        have m1z := fun W => merge_is g1 z f1 fz W
        have mx2 := fun W => merge_is x g2 fx f2 W
        have mz1 := fun W => merge_is z g1 fz f1 W
        have m2x := fun W => merge_is g2 x f2 fx W
        rw [p1] at mxy
        rw [p2] at myz
        rw [p3] at m1z
        rw [p4] at mx2
        rw [p5] at mz1
        rw [p6] at m2x
        clear hpt hft hfd hfy p1 p2 p3 p4 p5 p6 fx fy fz f1 f2 hx hy hz hg1 hg2 px py pz kft kfy kfd HDATA hle hg hC0 hC1
        go_upto_region 15 with fail
        have y0 := HS.out.c0
        have y1 := HS.out.c1
        refine wp_region_lit ?_
        refine wpList_plain rfl fun K hK => ?_
        go_simp
        refine hK _ _ ?_
        clear hK K
        (try simp only [Act.put, List.setIfInBounds_toArray, List.set_cons_zero, List.set_cons_succ])
        refine wpList_plain rfl fun K hK => ?_
        go_simp
        ((with_reducible refine (kf _ _ _ HS.out.pts).mono ?_); rintro e w4 ⟨rfl, hb4⟩)
        refine hK _ _ ?_
        clear hK K
        (try simp only [Act.put, List.setIfInBounds_toArray, List.set_cons_zero, List.set_cons_succ])
        refine wpList_plain rfl fun K hK => ?_
        go_simp
        refine hK _ _ ?_
        clear hK K
        (try simp only [Act.put, List.setIfInBounds_toArray, List.set_cons_zero, List.set_cons_succ])
        refine list_store_ag rfl _ _ rfl w4.heap.size Ag.zero g rfl rfl (AgW.zero w4 _) ?_
        refine wpList_nil ?_
        obtain ⟨w15, b11, hw5, hb5, h5⟩ := (HS.out.keep hb4).new g
        (try rw [← hw5])
        (try rw [← hb5])
        replace HS := Lib.hid h5
        clear hw5 hb5 h5 hb4 y0 y1
        go_upto_region 16 with fail
        have y0 := HS.out.c0
        have y1 := HS.out.c1
        refine wp_region_lit ?_
        refine wpList_plain rfl fun K hK => ?_
        go_simp
        refine hK _ _ ?_
        clear hK K
        (try simp only [Act.put, List.setIfInBounds_toArray, List.set_cons_zero, List.set_cons_succ])
        refine wpList_plain rfl fun K hK => ?_
        go_simp
        refine hK _ _ ?_
        clear hK K
        (try simp only [Act.put, List.setIfInBounds_toArray, List.set_cons_zero, List.set_cons_succ])
        refine wpList_plain rfl fun K hK => ?_
        go_simp
        refine hK _ _ ?_
        clear hK K
        (try simp only [Act.put, List.setIfInBounds_toArray, List.set_cons_zero, List.set_cons_succ])
        refine wpList_plain rfl fun K hK => ?_
        go_simp
        refine hK _ _ ?_
        clear hK K
        (try simp only [Act.put, List.setIfInBounds_toArray, List.set_cons_zero, List.set_cons_succ])
        refine wpList_plain rfl fun K hK => ?_
        go_simp
        ((with_reducible refine (kx _ HS.out.pts).mono ?_); rintro e w4 ⟨rfl, hb4⟩)
        refine hK _ _ ?_
        clear hK K
        (try simp only [Act.put, List.setIfInBounds_toArray, List.set_cons_zero, List.set_cons_succ])
        refine wpList_plain rfl fun K hK => ?_
        go_simp
        refine hK _ _ ?_
        clear hK K
        (try simp only [Act.put, List.setIfInBounds_toArray, List.set_cons_zero, List.set_cons_succ])
        refine list_store_ag rfl _ _ rfl w4.heap.size Ag.zero x rfl rfl (AgW.zero w4 _) ?_
        refine wpList_nil ?_
        obtain ⟨w16, b12, hw5, hb5, h5⟩ := (HS.out.keep hb4).new x
        (try rw [← hw5])
        (try rw [← hb5])
        replace HS := Lib.hid h5
        clear hw5 hb5 h5 hb4 y0 y1
        go_upto_region 17 with fail
        have y0 := HS.out.c0
        have y1 := HS.out.c1
        refine wp_region_lit ?_
        refine wpList_plain rfl fun K hK => ?_
        go_simp
        refine hK _ _ ?_
        clear hK K
        (try simp only [Act.put, List.setIfInBounds_toArray, List.set_cons_zero, List.set_cons_succ])
        refine wpList_plain rfl fun K hK => ?_
        go_simp
        refine hK _ _ ?_
        clear hK K
        (try simp only [Act.put, List.setIfInBounds_toArray, List.set_cons_zero, List.set_cons_succ])
        refine wpList_plain rfl fun K hK => ?_
        go_simp
        refine hK _ _ ?_
        clear hK K
        (try simp only [Act.put, List.setIfInBounds_toArray, List.set_cons_zero, List.set_cons_succ])
        refine wpList_plain rfl fun K hK => ?_
        go_simp
        refine hK _ _ ?_
        clear hK K
        (try simp only [Act.put, List.setIfInBounds_toArray, List.set_cons_zero, List.set_cons_succ])
        refine wpList_plain rfl fun K hK => ?_
        go_simp
        refine hK _ _ ?_
        clear hK K
        (try simp only [Act.put, List.setIfInBounds_toArray, List.set_cons_zero, List.set_cons_succ])
        refine wpList_plain rfl fun K hK => ?_
        go_simp
        refine hK _ _ ?_
        clear hK K
        (try simp only [Act.put, List.setIfInBounds_toArray, List.set_cons_zero, List.set_cons_succ])
        refine wpList_plain rfl fun K hK => ?_
        go_simp
        ((with_reducible refine (ky _ HS.out.pts).mono ?_); rintro e w4 ⟨rfl, hb4⟩)
        refine hK _ _ ?_
        clear hK K
        (try simp only [Act.put, List.setIfInBounds_toArray, List.set_cons_zero, List.set_cons_succ])
        refine wpList_plain rfl fun K hK => ?_
        go_simp
        refine hK _ _ ?_
        clear hK K
        (try simp only [Act.put, List.setIfInBounds_toArray, List.set_cons_zero, List.set_cons_succ])
        refine list_store_ag rfl _ _ rfl w4.heap.size Ag.zero y rfl rfl (AgW.zero w4 _) ?_
        refine wpList_nil ?_
        obtain ⟨w17, b13, hw5, hb5, h5⟩ := (HS.out.keep hb4).new y
        (try rw [← hw5])
        (try rw [← hb5])
        replace HS := Lib.hid h5
        clear hw5 hb5 h5 hb4 y0 y1
        go_upto_region 18 with fail
        have y0 := HS.out.c0
        have y1 := HS.out.c1
        refine wp_region_lit ?_
        refine wpList_plain rfl fun K hK => ?_
        go_simp
        refine hK _ _ ?_
        clear hK K
        (try simp only [Act.put, List.setIfInBounds_toArray, List.set_cons_zero, List.set_cons_succ])
        refine wpList_plain rfl fun K hK => ?_
        go_simp
        refine hK _ _ ?_
        clear hK K
        (try simp only [Act.put, List.setIfInBounds_toArray, List.set_cons_zero, List.set_cons_succ])
        refine wpList_plain rfl fun K hK => ?_
        go_simp
        refine hK _ _ ?_
        clear hK K
        (try simp only [Act.put, List.setIfInBounds_toArray, List.set_cons_zero, List.set_cons_succ])
        refine wpList_plain rfl fun K hK => ?_
        go_simp
        refine hK _ _ ?_
        clear hK K
        (try simp only [Act.put, List.setIfInBounds_toArray, List.set_cons_zero, List.set_cons_succ])
        refine wpList_plain rfl fun K hK => ?_
        go_simp
        ((with_reducible refine (kz _ HS.out.pts).mono ?_); rintro e w4 ⟨rfl, hb4⟩)
        refine hK _ _ ?_
        clear hK K
        (try simp only [Act.put, List.setIfInBounds_toArray, List.set_cons_zero, List.set_cons_succ])
        refine wpList_plain rfl fun K hK => ?_
        go_simp
        refine hK _ _ ?_
        clear hK K
        (try simp only [Act.put, List.setIfInBounds_toArray, List.set_cons_zero, List.set_cons_succ])
        refine list_store_ag rfl _ _ rfl w4.heap.size Ag.zero z rfl rfl (AgW.zero w4 _) ?_
        refine wpList_nil ?_
        obtain ⟨w18, b14, hw5, hb5, h5⟩ := (HS.out.keep hb4).new z
        (try rw [← hw5])
        (try rw [← hb5])
        replace HS := Lib.hid h5
        clear hw5 hb5 h5 hb4 y0 y1
        go_upto_region 19 with fail
        apply join (T := fun e W => PS w B b7 aM m (C0 : Int) (C1 : Int) ((e, g) :: [(b14, z), (b13, y), (b12, x), (b11, g)]) W)
        · intro hrest
          refine wp_region_held_drew (S := (PS w B b7 aM m (C0 : Int) (C1 : Int) [(b14, z), (b13, y), (b12, x), (b11, g)])) (by kernel_rfl) (HS.out.keep ((Below.refl _ _).drew)) (fun hHeld => ?_)
          generalize hwd : w18.drew = wp at hHeld ⊢
          clear hwd
          have CC := Lib.hid (XO.none w B b7 [(b14, z), (b13, y), (b12, x), (b11, g)] wp)
          refine wpAnyH_take (i := 0) (oi := ?bm1o) (v := agV x) ?bm1h (by kernel_rfl) (by kernel_rfl) (by kernel_rfl) ?bm1q ?bm1y hHeld ?bm1r
          case bm1h => (simp only [List.getElem?_toArray, List.getElem?_cons_zero]; rfl)
          case bm1q => exact fun _ _ _ h => h
          case bm1y => exact yields_ag (by kernel_rfl) _ rfl b12 x rfl (fun _ h => h.g (b12, x) (by simp))
          try simp only [Act.put, List.setIfInBounds_toArray, List.set_cons_zero, List.set_cons_succ]
          refine wpAnyH_take (i := 1) (oi := ?bm2o) (v := agV y) ?bm2h (by kernel_rfl) (by kernel_rfl) (by kernel_rfl) ?bm2q ?bm2y hHeld ?bm2r
          case bm2h => (simp only [List.getElem?_toArray, List.getElem?_cons_succ, List.getElem?_cons_zero]; rfl)
          case bm2q => exact fun _ _ _ h => h
          case bm2y => exact yields_ag (by kernel_rfl) _ rfl b13 y rfl (fun _ h => h.g (b13, y) (by simp))
          try simp only [Act.put, List.setIfInBounds_toArray, List.set_cons_zero, List.set_cons_succ]
          refine wpAnyH_take (i := 3) (oi := ?bm3o) (v := agV z) ?bm3h (by kernel_rfl) (by kernel_rfl) (by kernel_rfl) ?bm3q ?bm3y hHeld ?bm3r
          case bm3h => (simp only [List.getElem?_toArray, List.getElem?_cons_succ, List.getElem?_cons_zero]; rfl)
          case bm3q => exact fun _ _ _ h => h
          case bm3y => exact yields_ag (by kernel_rfl) _ rfl b14 z rfl (fun _ h => h.g (b14, z) (by simp))
          try simp only [Act.put, List.setIfInBounds_toArray, List.set_cons_zero, List.set_cons_succ]
          refine wpAnyH_ready (rs := [2, 5]) (by kernel_rfl) (by simp) ?_
          refine (AllReadyH.cons rfl (fun K hK => ?_) (AllReadyH.cons rfl (fun K hK => ?_) AllReadyH.nil))
          ·
            go_simp
            ((with_reducible refine (mxy _).mono ?_); rintro e w4 ⟨rfl, hb⟩; (have HH := hHeld.keep hb); (replace CC := Lib.hid (CC.out.keep hb)); clear hb)
            refine hK.out _ _ (HH) (fun hHeld => ?_)
            clear hK K
            try simp only [Act.put, List.setIfInBounds_toArray, List.set_cons_zero, List.set_cons_succ]
            refine wpAnyH_ready (rs := [4, 5]) (by kernel_rfl) (by simp) ?_
            refine (AllReadyH.cons rfl (fun K hK => ?_) (AllReadyH.cons rfl (fun K hK => ?_) AllReadyH.nil))
            ·
              go_simp
              ((with_reducible refine (m1z _).mono ?_); rintro e w4 ⟨rfl, hb⟩; (have HH := hHeld.keep hb); (replace CC := Lib.hid (CC.out.keep hb)); clear hb)
              refine hK.out _ _ (HH) (fun hHeld => ?_)
              clear hK K
              try simp only [Act.put, List.setIfInBounds_toArray, List.set_cons_zero, List.set_cons_succ]
              refine wpAnyH_ready (rs := [5]) (by kernel_rfl) (by simp) ?_
              refine (AllReadyH.cons rfl (fun K hK => ?_) AllReadyH.nil)
              go_simp
              (obtain ⟨w4, e4, hw4, he4, HH, C'⟩ := hHeld.box; (try rw [← hw4]); (try rw [← he4]); (replace CC := Lib.hid C'); clear C' hw4 he4)
              refine hK.out _ _ (HH) (fun hHeld => ?_)
              clear hK K
              try simp only [Act.put, List.setIfInBounds_toArray, List.set_cons_zero, List.set_cons_succ]
              refine wpAnyH_ready (rs := [6]) (by kernel_rfl) (by simp) ?_
              refine (AllReadyH.cons rfl (fun K hK => ?_) AllReadyH.nil)
              refine (if_pos (by kernel_rfl)).mpr ?_
              have HH := hHeld.stO CC.out g
              refine store_ag _ _ rfl e4 Ag.zero g rfl rfl (CC.out.e e4 rfl).1 ?_
              refine hK.out _ _ (HH.tail) (fun hHeld => ?_)
              clear hK K
              try simp only [Act.put]
              refine wpAnyH_done (by kernel_rfl) ?_ _
              exact hrest e4 _ HH
            ·
              go_simp
              (obtain ⟨w4, e4, hw4, he4, HH, C'⟩ := hHeld.box; (try rw [← hw4]); (try rw [← he4]); (replace CC := Lib.hid C'); clear C' hw4 he4)
              refine hK.out _ _ (HH) (fun hHeld => ?_)
              clear hK K
              try simp only [Act.put, List.setIfInBounds_toArray, List.set_cons_zero, List.set_cons_succ]
              refine wpAnyH_ready (rs := [4]) (by kernel_rfl) (by simp) ?_
              refine (AllReadyH.cons rfl (fun K hK => ?_) AllReadyH.nil)
              go_simp
              ((with_reducible refine (m1z _).mono ?_); rintro e w4 ⟨rfl, hb⟩; (have HH := hHeld.keep hb); (replace CC := Lib.hid (CC.out.keep hb)); clear hb)
              refine hK.out _ _ (HH) (fun hHeld => ?_)
              clear hK K
              try simp only [Act.put, List.setIfInBounds_toArray, List.set_cons_zero, List.set_cons_succ]
              refine wpAnyH_ready (rs := [6]) (by kernel_rfl) (by simp) ?_
              refine (AllReadyH.cons rfl (fun K hK => ?_) AllReadyH.nil)
              refine (if_pos (by kernel_rfl)).mpr ?_
              have HH := hHeld.stO CC.out g
              refine store_ag _ _ rfl e4 Ag.zero g rfl rfl (CC.out.e e4 rfl).1 ?_
              refine hK.out _ _ (HH.tail) (fun hHeld => ?_)
              clear hK K
              try simp only [Act.put]
              refine wpAnyH_done (by kernel_rfl) ?_ _
              exact hrest e4 _ HH
          ·
            go_simp
            (obtain ⟨w4, e4, hw4, he4, HH, C'⟩ := hHeld.box; (try rw [← hw4]); (try rw [← he4]); (replace CC := Lib.hid C'); clear C' hw4 he4)
            refine hK.out _ _ (HH) (fun hHeld => ?_)
            clear hK K
            try simp only [Act.put, List.setIfInBounds_toArray, List.set_cons_zero, List.set_cons_succ]
            refine wpAnyH_ready (rs := [2]) (by kernel_rfl) (by simp) ?_
            refine (AllReadyH.cons rfl (fun K hK => ?_) AllReadyH.nil)
            go_simp
            ((with_reducible refine (mxy _).mono ?_); rintro e w4 ⟨rfl, hb⟩; (have HH := hHeld.keep hb); (replace CC := Lib.hid (CC.out.keep hb)); clear hb)
            refine hK.out _ _ (HH) (fun hHeld => ?_)
            clear hK K
            try simp only [Act.put, List.setIfInBounds_toArray, List.set_cons_zero, List.set_cons_succ]
            refine wpAnyH_ready (rs := [4]) (by kernel_rfl) (by simp) ?_
            refine (AllReadyH.cons rfl (fun K hK => ?_) AllReadyH.nil)
            go_simp
            ((with_reducible refine (m1z _).mono ?_); rintro e w4 ⟨rfl, hb⟩; (have HH := hHeld.keep hb); (replace CC := Lib.hid (CC.out.keep hb)); clear hb)
            refine hK.out _ _ (HH) (fun hHeld => ?_)
            clear hK K
            try simp only [Act.put, List.setIfInBounds_toArray, List.set_cons_zero, List.set_cons_succ]
            refine wpAnyH_ready (rs := [6]) (by kernel_rfl) (by simp) ?_
            refine (AllReadyH.cons rfl (fun K hK => ?_) AllReadyH.nil)
            refine (if_pos (by kernel_rfl)).mpr ?_
            have HH := hHeld.stO CC.out g
            refine store_ag _ _ rfl e4 Ag.zero g rfl rfl (CC.out.e e4 rfl).1 ?_
            refine hK.out _ _ (HH.tail) (fun hHeld => ?_)
            clear hK K
            try simp only [Act.put]
            refine wpAnyH_done (by kernel_rfl) ?_ _
            exact hrest e4 _ HH
        intro b15 w19 hPS
        replace HS := Lib.hid hPS
        clear hPS
        go_upto_region 20 with fail
        apply join (T := fun e W => PS w B b7 aM m (C0 : Int) (C1 : Int) ((e, g) :: [(b15, g), (b14, z), (b13, y), (b12, x), (b11, g)]) W)
        · intro hrest
          refine wp_region_held_drew (S := (PS w B b7 aM m (C0 : Int) (C1 : Int) [(b15, g), (b14, z), (b13, y), (b12, x), (b11, g)])) (by kernel_rfl) (HS.out.keep ((Below.refl _ _).drew)) (fun hHeld => ?_)
          generalize hwd : w19.drew = wp at hHeld ⊢
          clear hwd
          have CC := Lib.hid (XO.none w B b7 [(b15, g), (b14, z), (b13, y), (b12, x), (b11, g)] wp)
          refine wpAnyH_take (i := 0) (oi := ?bn1o) (v := agV x) ?bn1h (by kernel_rfl) (by kernel_rfl) (by kernel_rfl) ?bn1q ?bn1y hHeld ?bn1r
          case bn1h => (simp only [List.getElem?_toArray, List.getElem?_cons_zero]; rfl)
          case bn1q => exact fun _ _ _ h => h
          case bn1y => exact yields_ag (by kernel_rfl) _ rfl b12 x rfl (fun _ h => h.g (b12, x) (by simp))
          try simp only [Act.put, List.setIfInBounds_toArray, List.set_cons_zero, List.set_cons_succ]
          refine wpAnyH_take (i := 1) (oi := ?bn2o) (v := agV y) ?bn2h (by kernel_rfl) (by kernel_rfl) (by kernel_rfl) ?bn2q ?bn2y hHeld ?bn2r
          case bn2h => (simp only [List.getElem?_toArray, List.getElem?_cons_succ, List.getElem?_cons_zero]; rfl)
          case bn2q => exact fun _ _ _ h => h
          case bn2y => exact yields_ag (by kernel_rfl) _ rfl b13 y rfl (fun _ h => h.g (b13, y) (by simp))
          try simp only [Act.put, List.setIfInBounds_toArray, List.set_cons_zero, List.set_cons_succ]
          refine wpAnyH_take (i := 2) (oi := ?bn3o) (v := agV z) ?bn3h (by kernel_rfl) (by kernel_rfl) (by kernel_rfl) ?bn3q ?bn3y hHeld ?bn3r
          case bn3h => (simp only [List.getElem?_toArray, List.getElem?_cons_succ, List.getElem?_cons_zero]; rfl)
          case bn3q => exact fun _ _ _ h => h
          case bn3y => exact yields_ag (by kernel_rfl) _ rfl b14 z rfl (fun _ h => h.g (b14, z) (by simp))
          try simp only [Act.put, List.setIfInBounds_toArray, List.set_cons_zero, List.set_cons_succ]
          refine wpAnyH_ready (rs := [3, 5]) (by kernel_rfl) (by simp) ?_
          refine (AllReadyH.cons rfl (fun K hK => ?_) (AllReadyH.cons rfl (fun K hK => ?_) AllReadyH.nil))
          ·
            go_simp
            ((with_reducible refine (myz _).mono ?_); rintro e w4 ⟨rfl, hb⟩; (have HH := hHeld.keep hb); (replace CC := Lib.hid (CC.out.keep hb)); clear hb)
            refine hK.out _ _ (HH) (fun hHeld => ?_)
            clear hK K
            try simp only [Act.put, List.setIfInBounds_toArray, List.set_cons_zero, List.set_cons_succ]
            refine wpAnyH_ready (rs := [4, 5]) (by kernel_rfl) (by simp) ?_
            refine (AllReadyH.cons rfl (fun K hK => ?_) (AllReadyH.cons rfl (fun K hK => ?_) AllReadyH.nil))
            ·
              go_simp
              ((with_reducible refine (mx2 _).mono ?_); rintro e w4 ⟨rfl, hb⟩; (have HH := hHeld.keep hb); (replace CC := Lib.hid (CC.out.keep hb)); clear hb)
              refine hK.out _ _ (HH) (fun hHeld => ?_)
              clear hK K
              try simp only [Act.put, List.setIfInBounds_toArray, List.set_cons_zero, List.set_cons_succ]
              refine wpAnyH_ready (rs := [5]) (by kernel_rfl) (by simp) ?_
              refine (AllReadyH.cons rfl (fun K hK => ?_) AllReadyH.nil)
              go_simp
              (obtain ⟨w4, e4, hw4, he4, HH, C'⟩ := hHeld.box; (try rw [← hw4]); (try rw [← he4]); (replace CC := Lib.hid C'); clear C' hw4 he4)
              refine hK.out _ _ (HH) (fun hHeld => ?_)
              clear hK K
              try simp only [Act.put, List.setIfInBounds_toArray, List.set_cons_zero, List.set_cons_succ]
              refine wpAnyH_ready (rs := [6]) (by kernel_rfl) (by simp) ?_
              refine (AllReadyH.cons rfl (fun K hK => ?_) AllReadyH.nil)
              refine (if_pos (by kernel_rfl)).mpr ?_
              have HH := hHeld.stO CC.out g
              refine store_ag _ _ rfl e4 Ag.zero g rfl rfl (CC.out.e e4 rfl).1 ?_
              refine hK.out _ _ (HH.tail) (fun hHeld => ?_)
              clear hK K
              try simp only [Act.put]
              refine wpAnyH_done (by kernel_rfl) ?_ _
              exact hrest e4 _ HH
            ·
              go_simp
              (obtain ⟨w4, e4, hw4, he4, HH, C'⟩ := hHeld.box; (try rw [← hw4]); (try rw [← he4]); (replace CC := Lib.hid C'); clear C' hw4 he4)
              refine hK.out _ _ (HH) (fun hHeld => ?_)
              clear hK K
              try simp only [Act.put, List.setIfInBounds_toArray, List.set_cons_zero, List.set_cons_succ]
              refine wpAnyH_ready (rs := [4]) (by kernel_rfl) (by simp) ?_
              refine (AllReadyH.cons rfl (fun K hK => ?_) AllReadyH.nil)
              go_simp
              ((with_reducible refine (mx2 _).mono ?_); rintro e w4 ⟨rfl, hb⟩; (have HH := hHeld.keep hb); (replace CC := Lib.hid (CC.out.keep hb)); clear hb)
              refine hK.out _ _ (HH) (fun hHeld => ?_)
              clear hK K
              try simp only [Act.put, List.setIfInBounds_toArray, List.set_cons_zero, List.set_cons_succ]
              refine wpAnyH_ready (rs := [6]) (by kernel_rfl) (by simp) ?_
              refine (AllReadyH.cons rfl (fun K hK => ?_) AllReadyH.nil)
              refine (if_pos (by kernel_rfl)).mpr ?_
              have HH := hHeld.stO CC.out g
              refine store_ag _ _ rfl e4 Ag.zero g rfl rfl (CC.out.e e4 rfl).1 ?_
              refine hK.out _ _ (HH.tail) (fun hHeld => ?_)
              clear hK K
              try simp only [Act.put]
              refine wpAnyH_done (by kernel_rfl) ?_ _
              exact hrest e4 _ HH
          ·
            go_simp
            (obtain ⟨w4, e4, hw4, he4, HH, C'⟩ := hHeld.box; (try rw [← hw4]); (try rw [← he4]); (replace CC := Lib.hid C'); clear C' hw4 he4)
            refine hK.out _ _ (HH) (fun hHeld => ?_)
            clear hK K
            try simp only [Act.put, List.setIfInBounds_toArray, List.set_cons_zero, List.set_cons_succ]
            refine wpAnyH_ready (rs := [3]) (by kernel_rfl) (by simp) ?_
            refine (AllReadyH.cons rfl (fun K hK => ?_) AllReadyH.nil)
            go_simp
            ((with_reducible refine (myz _).mono ?_); rintro e w4 ⟨rfl, hb⟩; (have HH := hHeld.keep hb); (replace CC := Lib.hid (CC.out.keep hb)); clear hb)
            refine hK.out _ _ (HH) (fun hHeld => ?_)
            clear hK K
            try simp only [Act.put, List.setIfInBounds_toArray, List.set_cons_zero, List.set_cons_succ]
            refine wpAnyH_ready (rs := [4]) (by kernel_rfl) (by simp) ?_
            refine (AllReadyH.cons rfl (fun K hK => ?_) AllReadyH.nil)
            go_simp
            ((with_reducible refine (mx2 _).mono ?_); rintro e w4 ⟨rfl, hb⟩; (have HH := hHeld.keep hb); (replace CC := Lib.hid (CC.out.keep hb)); clear hb)
            refine hK.out _ _ (HH) (fun hHeld => ?_)
            clear hK K
            try simp only [Act.put, List.setIfInBounds_toArray, List.set_cons_zero, List.set_cons_succ]
            refine wpAnyH_ready (rs := [6]) (by kernel_rfl) (by simp) ?_
            refine (AllReadyH.cons rfl (fun K hK => ?_) AllReadyH.nil)
            refine (if_pos (by kernel_rfl)).mpr ?_
            have HH := hHeld.stO CC.out g
            refine store_ag _ _ rfl e4 Ag.zero g rfl rfl (CC.out.e e4 rfl).1 ?_
            refine hK.out _ _ (HH.tail) (fun hHeld => ?_)
            clear hK K
            try simp only [Act.put]
            refine wpAnyH_done (by kernel_rfl) ?_ _
            exact hrest e4 _ HH
        intro b16 w20 hPS
        replace HS := Lib.hid hPS
        clear hPS
        go_upto_region 21 with fail
        apply join (T := fun e W => PS w B b7 aM m (C0 : Int) (C1 : Int) ((e, g) :: [(b16, g), (b15, g), (b14, z), (b13, y), (b12, x), (b11, g)]) W)
        · intro hrest
          refine wp_region_held_drew (S := (PS w B b7 aM m (C0 : Int) (C1 : Int) [(b16, g), (b15, g), (b14, z), (b13, y), (b12, x), (b11, g)])) (by kernel_rfl) (HS.out.keep ((Below.refl _ _).drew)) (fun hHeld => ?_)
          generalize hwd : w20.drew = wp at hHeld ⊢
          clear hwd
          have CC := Lib.hid (XO.none w B b7 [(b16, g), (b15, g), (b14, z), (b13, y), (b12, x), (b11, g)] wp)
          refine wpAnyH_take (i := 0) (oi := ?bo1o) (v := agV z) ?bo1h (by kernel_rfl) (by kernel_rfl) (by kernel_rfl) ?bo1q ?bo1y hHeld ?bo1r
          case bo1h => (simp only [List.getElem?_toArray, List.getElem?_cons_zero]; rfl)
          case bo1q => exact fun _ _ _ h => h
          case bo1y => exact yields_ag (by kernel_rfl) _ rfl b14 z rfl (fun _ h => h.g (b14, z) (by simp))
          try simp only [Act.put, List.setIfInBounds_toArray, List.set_cons_zero, List.set_cons_succ]
          refine wpAnyH_take (i := 1) (oi := ?bo2o) (v := agV x) ?bo2h (by kernel_rfl) (by kernel_rfl) (by kernel_rfl) ?bo2q ?bo2y hHeld ?bo2r
          case bo2h => (simp only [List.getElem?_toArray, List.getElem?_cons_succ, List.getElem?_cons_zero]; rfl)
          case bo2q => exact fun _ _ _ h => h
          case bo2y => exact yields_ag (by kernel_rfl) _ rfl b12 x rfl (fun _ h => h.g (b12, x) (by simp))
          try simp only [Act.put, List.setIfInBounds_toArray, List.set_cons_zero, List.set_cons_succ]
          refine wpAnyH_take (i := 2) (oi := ?bo3o) (v := agV y) ?bo3h (by kernel_rfl) (by kernel_rfl) (by kernel_rfl) ?bo3q ?bo3y hHeld ?bo3r
          case bo3h => (simp only [List.getElem?_toArray, List.getElem?_cons_succ, List.getElem?_cons_zero]; rfl)
          case bo3q => exact fun _ _ _ h => h
          case bo3y => exact yields_ag (by kernel_rfl) _ rfl b13 y rfl (fun _ h => h.g (b13, y) (by simp))
          try simp only [Act.put, List.setIfInBounds_toArray, List.set_cons_zero, List.set_cons_succ]
          refine wpAnyH_ready (rs := [3, 5]) (by kernel_rfl) (by simp) ?_
          refine (AllReadyH.cons rfl (fun K hK => ?_) (AllReadyH.cons rfl (fun K hK => ?_) AllReadyH.nil))
          ·
            go_simp
            ((with_reducible refine (mxy _).mono ?_); rintro e w4 ⟨rfl, hb⟩; (have HH := hHeld.keep hb); (replace CC := Lib.hid (CC.out.keep hb)); clear hb)
            refine hK.out _ _ (HH) (fun hHeld => ?_)
            clear hK K
            try simp only [Act.put, List.setIfInBounds_toArray, List.set_cons_zero, List.set_cons_succ]
            refine wpAnyH_ready (rs := [4, 5]) (by kernel_rfl) (by simp) ?_
            refine (AllReadyH.cons rfl (fun K hK => ?_) (AllReadyH.cons rfl (fun K hK => ?_) AllReadyH.nil))
            ·
              go_simp
              ((with_reducible refine (mz1 _).mono ?_); rintro e w4 ⟨rfl, hb⟩; (have HH := hHeld.keep hb); (replace CC := Lib.hid (CC.out.keep hb)); clear hb)
              refine hK.out _ _ (HH) (fun hHeld => ?_)
              clear hK K
              try simp only [Act.put, List.setIfInBounds_toArray, List.set_cons_zero, List.set_cons_succ]
              refine wpAnyH_ready (rs := [5]) (by kernel_rfl) (by simp) ?_
              refine (AllReadyH.cons rfl (fun K hK => ?_) AllReadyH.nil)
              go_simp
              (obtain ⟨w4, e4, hw4, he4, HH, C'⟩ := hHeld.box; (try rw [← hw4]); (try rw [← he4]); (replace CC := Lib.hid C'); clear C' hw4 he4)
              refine hK.out _ _ (HH) (fun hHeld => ?_)
              clear hK K
              try simp only [Act.put, List.setIfInBounds_toArray, List.set_cons_zero, List.set_cons_succ]
              refine wpAnyH_ready (rs := [6]) (by kernel_rfl) (by simp) ?_
              refine (AllReadyH.cons rfl (fun K hK => ?_) AllReadyH.nil)
              refine (if_pos (by kernel_rfl)).mpr ?_
              have HH := hHeld.stO CC.out g
              refine store_ag _ _ rfl e4 Ag.zero g rfl rfl (CC.out.e e4 rfl).1 ?_
              refine hK.out _ _ (HH.tail) (fun hHeld => ?_)
              clear hK K
              try simp only [Act.put]
              refine wpAnyH_done (by kernel_rfl) ?_ _
              exact hrest e4 _ HH
            ·
              go_simp
              (obtain ⟨w4, e4, hw4, he4, HH, C'⟩ := hHeld.box; (try rw [← hw4]); (try rw [← he4]); (replace CC := Lib.hid C'); clear C' hw4 he4)
              refine hK.out _ _ (HH) (fun hHeld => ?_)
              clear hK K
              try simp only [Act.put, List.setIfInBounds_toArray, List.set_cons_zero, List.set_cons_succ]
              refine wpAnyH_ready (rs := [4]) (by kernel_rfl) (by simp) ?_
              refine (AllReadyH.cons rfl (fun K hK => ?_) AllReadyH.nil)
              go_simp
              ((with_reducible refine (mz1 _).mono ?_); rintro e w4 ⟨rfl, hb⟩; (have HH := hHeld.keep hb); (replace CC := Lib.hid (CC.out.keep hb)); clear hb)
              refine hK.out _ _ (HH) (fun hHeld => ?_)
              clear hK K
              try simp only [Act.put, List.setIfInBounds_toArray, List.set_cons_zero, List.set_cons_succ]
              refine wpAnyH_ready (rs := [6]) (by kernel_rfl) (by simp) ?_
              refine (AllReadyH.cons rfl (fun K hK => ?_) AllReadyH.nil)
              refine (if_pos (by kernel_rfl)).mpr ?_
              have HH := hHeld.stO CC.out g
              refine store_ag _ _ rfl e4 Ag.zero g rfl rfl (CC.out.e e4 rfl).1 ?_
              refine hK.out _ _ (HH.tail) (fun hHeld => ?_)
              clear hK K
              try simp only [Act.put]
              refine wpAnyH_done (by kernel_rfl) ?_ _
              exact hrest e4 _ HH
          ·
            go_simp
            (obtain ⟨w4, e4, hw4, he4, HH, C'⟩ := hHeld.box; (try rw [← hw4]); (try rw [← he4]); (replace CC := Lib.hid C'); clear C' hw4 he4)
            refine hK.out _ _ (HH) (fun hHeld => ?_)
            clear hK K
            try simp only [Act.put, List.setIfInBounds_toArray, List.set_cons_zero, List.set_cons_succ]
            refine wpAnyH_ready (rs := [3]) (by kernel_rfl) (by simp) ?_
            refine (AllReadyH.cons rfl (fun K hK => ?_) AllReadyH.nil)
            go_simp
            ((with_reducible refine (mxy _).mono ?_); rintro e w4 ⟨rfl, hb⟩; (have HH := hHeld.keep hb); (replace CC := Lib.hid (CC.out.keep hb)); clear hb)
            refine hK.out _ _ (HH) (fun hHeld => ?_)
            clear hK K
            try simp only [Act.put, List.setIfInBounds_toArray, List.set_cons_zero, List.set_cons_succ]
            refine wpAnyH_ready (rs := [4]) (by kernel_rfl) (by simp) ?_
            refine (AllReadyH.cons rfl (fun K hK => ?_) AllReadyH.nil)
            go_simp
            ((with_reducible refine (mz1 _).mono ?_); rintro e w4 ⟨rfl, hb⟩; (have HH := hHeld.keep hb); (replace CC := Lib.hid (CC.out.keep hb)); clear hb)
            refine hK.out _ _ (HH) (fun hHeld => ?_)
            clear hK K
            try simp only [Act.put, List.setIfInBounds_toArray, List.set_cons_zero, List.set_cons_succ]
            refine wpAnyH_ready (rs := [6]) (by kernel_rfl) (by simp) ?_
            refine (AllReadyH.cons rfl (fun K hK => ?_) AllReadyH.nil)
            refine (if_pos (by kernel_rfl)).mpr ?_
            have HH := hHeld.stO CC.out g
            refine store_ag _ _ rfl e4 Ag.zero g rfl rfl (CC.out.e e4 rfl).1 ?_
            refine hK.out _ _ (HH.tail) (fun hHeld => ?_)
            clear hK K
            try simp only [Act.put]
            refine wpAnyH_done (by kernel_rfl) ?_ _
            exact hrest e4 _ HH
        intro b17 w21 hPS
        replace HS := Lib.hid hPS
        clear hPS
        go_upto_region 22 with fail
        apply join (T := fun e W => PS w B b7 aM m (C0 : Int) (C1 : Int) ((e, g) :: [(b17, g), (b16, g), (b15, g), (b14, z), (b13, y), (b12, x), (b11, g)]) W)
        · intro hrest
          refine wp_region_held_drew (S := (PS w B b7 aM m (C0 : Int) (C1 : Int) [(b17, g), (b16, g), (b15, g), (b14, z), (b13, y), (b12, x), (b11, g)])) (by kernel_rfl) (HS.out.keep ((Below.refl _ _).drew)) (fun hHeld => ?_)
          generalize hwd : w21.drew = wp at hHeld ⊢
          clear hwd
          have CC := Lib.hid (XO.none w B b7 [(b17, g), (b16, g), (b15, g), (b14, z), (b13, y), (b12, x), (b11, g)] wp)
          refine wpAnyH_take (i := 0) (oi := ?bp1o) (v := agV y) ?bp1h (by kernel_rfl) (by kernel_rfl) (by kernel_rfl) ?bp1q ?bp1y hHeld ?bp1r
          case bp1h => (simp only [List.getElem?_toArray, List.getElem?_cons_zero]; rfl)
          case bp1q => exact fun _ _ _ h => h
          case bp1y => exact yields_ag (by kernel_rfl) _ rfl b13 y rfl (fun _ h => h.g (b13, y) (by simp))
          try simp only [Act.put, List.setIfInBounds_toArray, List.set_cons_zero, List.set_cons_succ]
          refine wpAnyH_take (i := 1) (oi := ?bp2o) (v := agV z) ?bp2h (by kernel_rfl) (by kernel_rfl) (by kernel_rfl) ?bp2q ?bp2y hHeld ?bp2r
          case bp2h => (simp only [List.getElem?_toArray, List.getElem?_cons_succ, List.getElem?_cons_zero]; rfl)
          case bp2q => exact fun _ _ _ h => h
          case bp2y => exact yields_ag (by kernel_rfl) _ rfl b14 z rfl (fun _ h => h.g (b14, z) (by simp))
          try simp only [Act.put, List.setIfInBounds_toArray, List.set_cons_zero, List.set_cons_succ]
          refine wpAnyH_take (i := 3) (oi := ?bp3o) (v := agV x) ?bp3h (by kernel_rfl) (by kernel_rfl) (by kernel_rfl) ?bp3q ?bp3y hHeld ?bp3r
          case bp3h => (simp only [List.getElem?_toArray, List.getElem?_cons_succ, List.getElem?_cons_zero]; rfl)
          case bp3q => exact fun _ _ _ h => h
          case bp3y => exact yields_ag (by kernel_rfl) _ rfl b12 x rfl (fun _ h => h.g (b12, x) (by simp))
          try simp only [Act.put, List.setIfInBounds_toArray, List.set_cons_zero, List.set_cons_succ]
          refine wpAnyH_ready (rs := [2, 5]) (by kernel_rfl) (by simp) ?_
          refine (AllReadyH.cons rfl (fun K hK => ?_) (AllReadyH.cons rfl (fun K hK => ?_) AllReadyH.nil))
          ·
            go_simp
            ((with_reducible refine (myz _).mono ?_); rintro e w4 ⟨rfl, hb⟩; (have HH := hHeld.keep hb); (replace CC := Lib.hid (CC.out.keep hb)); clear hb)
            refine hK.out _ _ (HH) (fun hHeld => ?_)
            clear hK K
            try simp only [Act.put, List.setIfInBounds_toArray, List.set_cons_zero, List.set_cons_succ]
            refine wpAnyH_ready (rs := [4, 5]) (by kernel_rfl) (by simp) ?_
            refine (AllReadyH.cons rfl (fun K hK => ?_) (AllReadyH.cons rfl (fun K hK => ?_) AllReadyH.nil))
            ·
              go_simp
              ((with_reducible refine (m2x _).mono ?_); rintro e w4 ⟨rfl, hb⟩; (have HH := hHeld.keep hb); (replace CC := Lib.hid (CC.out.keep hb)); clear hb)
              refine hK.out _ _ (HH) (fun hHeld => ?_)
              clear hK K
              try simp only [Act.put, List.setIfInBounds_toArray, List.set_cons_zero, List.set_cons_succ]
              refine wpAnyH_ready (rs := [5]) (by kernel_rfl) (by simp) ?_
              refine (AllReadyH.cons rfl (fun K hK => ?_) AllReadyH.nil)
              go_simp
              (obtain ⟨w4, e4, hw4, he4, HH, C'⟩ := hHeld.box; (try rw [← hw4]); (try rw [← he4]); (replace CC := Lib.hid C'); clear C' hw4 he4)
              refine hK.out _ _ (HH) (fun hHeld => ?_)
              clear hK K
              try simp only [Act.put, List.setIfInBounds_toArray, List.set_cons_zero, List.set_cons_succ]
              refine wpAnyH_ready (rs := [6]) (by kernel_rfl) (by simp) ?_
              refine (AllReadyH.cons rfl (fun K hK => ?_) AllReadyH.nil)
              refine (if_pos (by kernel_rfl)).mpr ?_
              have HH := hHeld.stO CC.out g
              refine store_ag _ _ rfl e4 Ag.zero g rfl rfl (CC.out.e e4 rfl).1 ?_
              refine hK.out _ _ (HH.tail) (fun hHeld => ?_)
              clear hK K
              try simp only [Act.put]
              refine wpAnyH_done (by kernel_rfl) ?_ _
              exact hrest e4 _ HH
            ·
              go_simp
              (obtain ⟨w4, e4, hw4, he4, HH, C'⟩ := hHeld.box; (try rw [← hw4]); (try rw [← he4]); (replace CC := Lib.hid C'); clear C' hw4 he4)
              refine hK.out _ _ (HH) (fun hHeld => ?_)
              clear hK K
              try simp only [Act.put, List.setIfInBounds_toArray, List.set_cons_zero, List.set_cons_succ]
              refine wpAnyH_ready (rs := [4]) (by kernel_rfl) (by simp) ?_
              refine (AllReadyH.cons rfl (fun K hK => ?_) AllReadyH.nil)
              go_simp
              ((with_reducible refine (m2x _).mono ?_); rintro e w4 ⟨rfl, hb⟩; (have HH := hHeld.keep hb); (replace CC := Lib.hid (CC.out.keep hb)); clear hb)
              refine hK.out _ _ (HH) (fun hHeld => ?_)
              clear hK K
              try simp only [Act.put, List.setIfInBounds_toArray, List.set_cons_zero, List.set_cons_succ]
              refine wpAnyH_ready (rs := [6]) (by kernel_rfl) (by simp) ?_
              refine (AllReadyH.cons rfl (fun K hK => ?_) AllReadyH.nil)
              refine (if_pos (by kernel_rfl)).mpr ?_
              have HH := hHeld.stO CC.out g
              refine store_ag _ _ rfl e4 Ag.zero g rfl rfl (CC.out.e e4 rfl).1 ?_
              refine hK.out _ _ (HH.tail) (fun hHeld => ?_)
              clear hK K
              try simp only [Act.put]
              refine wpAnyH_done (by kernel_rfl) ?_ _
              exact hrest e4 _ HH
          ·
            go_simp
            (obtain ⟨w4, e4, hw4, he4, HH, C'⟩ := hHeld.box; (try rw [← hw4]); (try rw [← he4]); (replace CC := Lib.hid C'); clear C' hw4 he4)
            refine hK.out _ _ (HH) (fun hHeld => ?_)
            clear hK K
            try simp only [Act.put, List.setIfInBounds_toArray, List.set_cons_zero, List.set_cons_succ]
            refine wpAnyH_ready (rs := [2]) (by kernel_rfl) (by simp) ?_
            refine (AllReadyH.cons rfl (fun K hK => ?_) AllReadyH.nil)
            go_simp
            ((with_reducible refine (myz _).mono ?_); rintro e w4 ⟨rfl, hb⟩; (have HH := hHeld.keep hb); (replace CC := Lib.hid (CC.out.keep hb)); clear hb)
            refine hK.out _ _ (HH) (fun hHeld => ?_)
            clear hK K
            try simp only [Act.put, List.setIfInBounds_toArray, List.set_cons_zero, List.set_cons_succ]
            refine wpAnyH_ready (rs := [4]) (by kernel_rfl) (by simp) ?_
            refine (AllReadyH.cons rfl (fun K hK => ?_) AllReadyH.nil)
            go_simp
            ((with_reducible refine (m2x _).mono ?_); rintro e w4 ⟨rfl, hb⟩; (have HH := hHeld.keep hb); (replace CC := Lib.hid (CC.out.keep hb)); clear hb)
            refine hK.out _ _ (HH) (fun hHeld => ?_)
            clear hK K
            try simp only [Act.put, List.setIfInBounds_toArray, List.set_cons_zero, List.set_cons_succ]
            refine wpAnyH_ready (rs := [6]) (by kernel_rfl) (by simp) ?_
            refine (AllReadyH.cons rfl (fun K hK => ?_) AllReadyH.nil)
            refine (if_pos (by kernel_rfl)).mpr ?_
            have HH := hHeld.stO CC.out g
            refine store_ag _ _ rfl e4 Ag.zero g rfl rfl (CC.out.e e4 rfl).1 ?_
            refine hK.out _ _ (HH.tail) (fun hHeld => ?_)
            clear hK K
            try simp only [Act.put]
            refine wpAnyH_done (by kernel_rfl) ?_ _
            exact hrest e4 _ HH
        intro b18 w22 hPS
        replace HS := Lib.hid hPS
        clear hPS
        go_upto_region 23 with fail
        refine wp_region_lit ?_
        refine list_load_ag rfl _ rfl b11 g rfl (HS.out.g (b11, g) (by simp)) ?_
        refine wpList_plain rfl fun K hK => ?_
        go_simp
        ((with_reducible refine (kb _).mono ?_); rintro e w4 ⟨rfl, hb4⟩)
        refine hK _ _ ?_
        clear hK K
        (try simp only [Act.put, List.setIfInBounds_toArray, List.set_cons_zero, List.set_cons_succ])
        refine wpList_plain rfl fun K hK => ?_
        go_simp
        refine hK _ _ ?_
        clear hK K
        (try simp only [Act.put, List.setIfInBounds_toArray, List.set_cons_zero, List.set_cons_succ])
        refine wpList_plain rfl fun K hK => ?_
        go_simp
        refine hK _ _ ?_
        clear hK K
        (try simp only [Act.put, List.setIfInBounds_toArray, List.set_cons_zero, List.set_cons_succ])
        refine wpList_plain rfl fun K hK => ?_
        go_simp
        refine hK _ _ ?_
        clear hK K
        (try simp only [Act.put, List.setIfInBounds_toArray, List.set_cons_zero, List.set_cons_succ])
        refine wpList_plain rfl fun K hK => ?_
        go_simp
        refine hK _ _ ?_
        clear hK K
        (try simp only [Act.put, List.setIfInBounds_toArray, List.set_cons_zero, List.set_cons_succ])
        refine wpList_plain rfl fun K hK => ?_
        go_simp
        refine hK _ _ ?_
        clear hK K
        (try simp only [Act.put, List.setIfInBounds_toArray, List.set_cons_zero, List.set_cons_succ])
        refine wpList_nil ?_
        replace HS := Lib.hid (HS.out.keep hb4)
        clear hb4
        go_upto_region 24 with fail
        refine wp_region_lit ?_
        refine wpList_plain rfl fun K hK => ?_
        go_simp
        refine hK _ _ ?_
        clear hK K
        (try simp only [Act.put, List.setIfInBounds_toArray, List.set_cons_zero, List.set_cons_succ])
        refine wpList_plain rfl fun K hK => ?_
        go_simp
        ((with_reducible refine (kr _).mono ?_); rintro e w7 ⟨rfl, hb7⟩)
        refine hK _ _ ?_
        clear hK K
        (try simp only [Act.put, List.setIfInBounds_toArray, List.set_cons_zero, List.set_cons_succ])
        refine wpList_plain rfl fun K hK => ?_
        go_simp
        refine hK _ _ ?_
        clear hK K
        (try simp only [Act.put, List.setIfInBounds_toArray, List.set_cons_zero, List.set_cons_succ])
        refine wpList_plain rfl fun K hK => ?_
        go_simp
        refine hK _ _ ?_
        clear hK K
        (try simp only [Act.put, List.setIfInBounds_toArray, List.set_cons_zero, List.set_cons_succ])
        refine wpList_plain rfl fun K hK => ?_
        go_simp
        refine hK _ _ ?_
        clear hK K
        (try simp only [Act.put, List.setIfInBounds_toArray, List.set_cons_zero, List.set_cons_succ])
        refine wpList_plain rfl fun K hK => ?_
        go_simp
        refine hK _ _ ?_
        clear hK K
        (try simp only [Act.put, List.setIfInBounds_toArray, List.set_cons_zero, List.set_cons_succ])
        refine list_store_ag rfl _ _ rfl w7.heap.size Ag.zero g rfl rfl (AgW.zero w7 _) ?_
        obtain ⟨w24, b21, hw5, hb5, h5⟩ := (HS.out.keep hb7).new g
        (try rw [← hw5])
        (try rw [← hb5])
        replace HS := Lib.hid h5
        clear hw5 hb5 h5 hb7
        refine wpList_plain rfl fun K hK => ?_
        go_simp
        refine hK _ _ ?_
        clear hK K
        (try simp only [Act.put, List.setIfInBounds_toArray, List.set_cons_zero, List.set_cons_succ])
        refine wpList_nil ?_
        go_upto_region 25 with fail
        have x0 := (HS.out.g (b11, g) (by simp)).cell 0 rfl
        rw [hgn] at x0
        refine wp_region_lit ?_
        refine wpList_plain rfl fun K hK => ?_
        go_simp
        refine hK _ _ ?_
        clear hK K
        (try simp only [Act.put, List.setIfInBounds_toArray, List.set_cons_zero, List.set_cons_succ])
        refine wpList_plain rfl fun K hK => ?_
        go_simp
        refine hK _ _ ?_
        clear hK K
        (try simp only [Act.put, List.setIfInBounds_toArray, List.set_cons_zero, List.set_cons_succ])
        refine wpList_step fun K hK => ?_
        refine (if_pos (by kernel_rfl)).mpr ?_
        refine load_ag _ rfl b11 g rfl (HS.out.g (b11, g) (by simp)) ?_
        refine hK _ _ ?_
        clear hK K
        (try simp only [Act.put, List.setIfInBounds_toArray, List.set_cons_zero, List.set_cons_succ])
        refine wpList_step fun K hK => ?_
        refine (if_pos (by kernel_rfl)).mpr ?_
        refine load_ag _ rfl b15 g rfl (HS.out.g (b15, g) (by simp)) ?_
        refine hK _ _ ?_
        clear hK K
        (try simp only [Act.put, List.setIfInBounds_toArray, List.set_cons_zero, List.set_cons_succ])
        refine wpList_step fun K hK => ?_
        refine (if_pos (by kernel_rfl)).mpr ?_
        go_simp
        refine hK _ _ ?_
        clear hK K
        (try simp only [Act.put, List.setIfInBounds_toArray, List.set_cons_zero, List.set_cons_succ])
        refine wpList_plain rfl fun K hK => ?_
        go_simp
        refine hK _ _ ?_
        clear hK K
        (try simp only [Act.put, List.setIfInBounds_toArray, List.set_cons_zero, List.set_cons_succ])
        refine wpList_plain rfl fun K hK => ?_
        go_simp
        refine hK _ _ ?_
        clear hK K
        (try simp only [Act.put, List.setIfInBounds_toArray, List.set_cons_zero, List.set_cons_succ])
        refine wpList_step fun K hK => ?_
        refine (if_pos (by kernel_rfl)).mpr ?_
        refine load_ag _ rfl b11 g rfl (HS.out.g (b11, g) (by simp)) ?_
        refine hK _ _ ?_
        clear hK K
        (try simp only [Act.put, List.setIfInBounds_toArray, List.set_cons_zero, List.set_cons_succ])
        refine wpList_step fun K hK => ?_
        refine (if_pos (by kernel_rfl)).mpr ?_
        refine load_ag _ rfl b16 g rfl (HS.out.g (b16, g) (by simp)) ?_
        refine hK _ _ ?_
        clear hK K
        (try simp only [Act.put, List.setIfInBounds_toArray, List.set_cons_zero, List.set_cons_succ])
        refine wpList_step fun K hK => ?_
        refine (if_pos (by kernel_rfl)).mpr ?_
        go_simp
        refine hK _ _ ?_
        clear hK K
        (try simp only [Act.put, List.setIfInBounds_toArray, List.set_cons_zero, List.set_cons_succ])
        refine wpList_plain rfl fun K hK => ?_
        go_simp
        refine hK _ _ ?_
        clear hK K
        (try simp only [Act.put, List.setIfInBounds_toArray, List.set_cons_zero, List.set_cons_succ])
        refine wpList_plain rfl fun K hK => ?_
        go_simp
        refine hK _ _ ?_
        clear hK K
        (try simp only [Act.put, List.setIfInBounds_toArray, List.set_cons_zero, List.set_cons_succ])
        refine wpList_step fun K hK => ?_
        refine (if_pos (by kernel_rfl)).mpr ?_
        refine load_ag _ rfl b11 g rfl (HS.out.g (b11, g) (by simp)) ?_
        refine hK _ _ ?_
        clear hK K
        (try simp only [Act.put, List.setIfInBounds_toArray, List.set_cons_zero, List.set_cons_succ])
        refine wpList_step fun K hK => ?_
        refine (if_pos (by kernel_rfl)).mpr ?_
        refine load_ag _ rfl b17 g rfl (HS.out.g (b17, g) (by simp)) ?_
        refine hK _ _ ?_
        clear hK K
        (try simp only [Act.put, List.setIfInBounds_toArray, List.set_cons_zero, List.set_cons_succ])
        refine wpList_step fun K hK => ?_
        refine (if_pos (by kernel_rfl)).mpr ?_
        go_simp
        refine hK _ _ ?_
        clear hK K
        (try simp only [Act.put, List.setIfInBounds_toArray, List.set_cons_zero, List.set_cons_succ])
        refine wpList_plain rfl fun K hK => ?_
        go_simp
        refine hK _ _ ?_
        clear hK K
        (try simp only [Act.put, List.setIfInBounds_toArray, List.set_cons_zero, List.set_cons_succ])
        refine wpList_plain rfl fun K hK => ?_
        go_simp
        refine hK _ _ ?_
        clear hK K
        (try simp only [Act.put, List.setIfInBounds_toArray, List.set_cons_zero, List.set_cons_succ])
        refine wpList_step fun K hK => ?_
        refine (if_pos (by kernel_rfl)).mpr ?_
        refine load_ag _ rfl b11 g rfl (HS.out.g (b11, g) (by simp)) ?_
        refine hK _ _ ?_
        clear hK K
        (try simp only [Act.put, List.setIfInBounds_toArray, List.set_cons_zero, List.set_cons_succ])
        refine wpList_step fun K hK => ?_
        refine (if_pos (by kernel_rfl)).mpr ?_
        refine load_ag _ rfl b18 g rfl (HS.out.g (b18, g) (by simp)) ?_
        refine hK _ _ ?_
        clear hK K
        (try simp only [Act.put, List.setIfInBounds_toArray, List.set_cons_zero, List.set_cons_succ])
        refine wpList_step fun K hK => ?_
        refine (if_pos (by kernel_rfl)).mpr ?_
        go_simp
        refine hK _ _ ?_
        clear hK K
        (try simp only [Act.put, List.setIfInBounds_toArray, List.set_cons_zero, List.set_cons_succ])
        refine wpList_plain rfl fun K hK => ?_
        go_simp
        refine hK _ _ ?_
        clear hK K
        (try simp only [Act.put, List.setIfInBounds_toArray, List.set_cons_zero, List.set_cons_succ])
        refine wpList_plain rfl fun K hK => ?_
        go_simp
        refine hK _ _ ?_
        clear hK K
        (try simp only [Act.put, List.setIfInBounds_toArray, List.set_cons_zero, List.set_cons_succ])
        refine wpList_step fun K hK => ?_
        refine (if_pos (by kernel_rfl)).mpr ?_
        go_simp
        refine hK _ _ ?_
        clear hK K
        (try simp only [Act.put, List.setIfInBounds_toArray, List.set_cons_zero, List.set_cons_succ])
        refine wpList_step fun K hK => ?_
        refine (if_pos (by kernel_rfl)).mpr ?_
        go_simp
        refine hK _ _ ?_
        clear hK K
        (try simp only [Act.put, List.setIfInBounds_toArray, List.set_cons_zero, List.set_cons_succ])
        refine wpList_step fun K hK => ?_
        refine (if_pos (by kernel_rfl)).mpr ?_
        go_simp
        refine hK _ _ ?_
        clear hK K
        (try simp only [Act.put, List.setIfInBounds_toArray, List.set_cons_zero, List.set_cons_succ])
        refine wpList_step fun K hK => ?_
        refine (if_pos (by kernel_rfl)).mpr ?_
        go_simp
        refine hK _ _ ?_
        clear hK K
        (try simp only [Act.put, List.setIfInBounds_toArray, List.set_cons_zero, List.set_cons_succ])
        refine wpList_step fun K hK => ?_
        refine (if_pos (by kernel_rfl)).mpr ?_
        go_simp
        refine hK _ _ ?_
        clear hK K
        (try simp only [Act.put, List.setIfInBounds_toArray, List.set_cons_zero, List.set_cons_succ])
        refine wpList_plain rfl fun K hK => ?_
        go_simp
        refine hK _ _ ?_
        clear hK K
        (try simp only [Act.put, List.setIfInBounds_toArray, List.set_cons_zero, List.set_cons_succ])
        refine wpList_plain rfl fun K hK => ?_
        go_simp
        refine hK _ _ ?_
        clear hK K
        (try simp only [Act.put, List.setIfInBounds_toArray, List.set_cons_zero, List.set_cons_succ])
        refine wpList_step fun K hK => ?_
        refine (if_pos (by kernel_rfl)).mpr ?_
        refine load_ag _ rfl b11 g rfl (HS.out.g (b11, g) (by simp)) ?_
        refine hK _ _ ?_
        clear hK K
        (try simp only [Act.put, List.setIfInBounds_toArray, List.set_cons_zero, List.set_cons_succ])
        refine wpList_step fun K hK => ?_
        refine (if_pos (by kernel_rfl)).mpr ?_
        go_simp
        ((with_reducible refine (kd _).mono ?_); rintro e w9 ⟨rfl, hb9⟩; (replace HS := Lib.hid (HS.out.keep hb9)); clear hb9 x0)
        refine hK _ _ ?_
        clear hK K
        (try simp only [Act.put, List.setIfInBounds_toArray, List.set_cons_zero, List.set_cons_succ])
        refine wpList_step fun K hK => ?_
        refine (if_pos (by kernel_rfl)).mpr ?_
        go_simp
        refine hK _ _ ?_
        clear hK K
        (try simp only [Act.put, List.setIfInBounds_toArray, List.set_cons_zero, List.set_cons_succ])
        refine wpList_plain rfl fun K hK => ?_
        go_simp
        refine hK _ _ ?_
        clear hK K
        (try simp only [Act.put, List.setIfInBounds_toArray, List.set_cons_zero, List.set_cons_succ])
        refine wpList_plain rfl fun K hK => ?_
        go_simp
        refine hK _ _ ?_
        clear hK K
        (try simp only [Act.put, List.setIfInBounds_toArray, List.set_cons_zero, List.set_cons_succ])
        refine wpList_step fun K hK => ?_
        refine (if_pos (by kernel_rfl)).mpr ?_
        go_simp
        refine hK _ _ ?_
        clear hK K
        (try simp only [Act.put, List.setIfInBounds_toArray, List.set_cons_zero, List.set_cons_succ])
        refine wpList_step fun K hK => ?_
        refine (if_pos (by kernel_rfl)).mpr ?_
        go_simp
        refine hK _ _ ?_
        clear hK K
        (try simp only [Act.put, List.setIfInBounds_toArray, List.set_cons_zero, List.set_cons_succ])
        refine wpList_plain rfl fun K hK => ?_
        go_simp
        refine hK _ _ ?_
        clear hK K
        (try simp only [Act.put, List.setIfInBounds_toArray, List.set_cons_zero, List.set_cons_succ])
        refine wpList_plain rfl fun K hK => ?_
        go_simp
        refine hK _ _ ?_
        clear hK K
        (try simp only [Act.put, List.setIfInBounds_toArray, List.set_cons_zero, List.set_cons_succ])
        refine wpList_step fun K hK => ?_
        refine (if_pos (by kernel_rfl)).mpr ?_
        go_simp
        refine hK _ _ ?_
        clear hK K
        (try simp only [Act.put, List.setIfInBounds_toArray, List.set_cons_zero, List.set_cons_succ])
        refine wpList_step fun K hK => ?_
        refine (if_pos (by kernel_rfl)).mpr ?_
        go_simp
        refine hK _ _ ?_
        clear hK K
        (try simp only [Act.put, List.setIfInBounds_toArray, List.set_cons_zero, List.set_cons_succ])
        refine wpList_plain rfl fun K hK => ?_
        go_simp
        refine hK _ _ ?_
        clear hK K
        (try simp only [Act.put, List.setIfInBounds_toArray, List.set_cons_zero, List.set_cons_succ])
        refine wpList_plain rfl fun K hK => ?_
        go_simp
        refine hK _ _ ?_
        clear hK K
        (try simp only [Act.put, List.setIfInBounds_toArray, List.set_cons_zero, List.set_cons_succ])
        refine wpList_step fun K hK => ?_
        refine (if_pos (by kernel_rfl)).mpr ?_
        refine load_ag _ rfl b21 g rfl (HS.out.g (b21, g) (by simp)) ?_
        refine hK _ _ ?_
        clear hK K
        (try simp only [Act.put, List.setIfInBounds_toArray, List.set_cons_zero, List.set_cons_succ])
        refine wpList_step fun K hK => ?_
        refine (if_pos (by kernel_rfl)).mpr ?_
        refine load_ag _ rfl b11 g rfl (HS.out.g (b11, g) (by simp)) ?_
        refine hK _ _ ?_
        clear hK K
        (try simp only [Act.put, List.setIfInBounds_toArray, List.set_cons_zero, List.set_cons_succ])
        refine wpList_step fun K hK => ?_
        refine (if_pos (by kernel_rfl)).mpr ?_
        go_simp
        refine hK _ _ ?_
        clear hK K
        (try simp only [Act.put, List.setIfInBounds_toArray, List.set_cons_zero, List.set_cons_succ])
        refine wpList_plain rfl fun K hK => ?_
        go_simp
        refine hK _ _ ?_
        clear hK K
        (try simp only [Act.put, List.setIfInBounds_toArray, List.set_cons_zero, List.set_cons_succ])
        refine wpList_plain rfl fun K hK => ?_
        go_simp
        refine hK _ _ ?_
        clear hK K
        (try simp only [Act.put, List.setIfInBounds_toArray, List.set_cons_zero, List.set_cons_succ])
        refine wpList_nil ?_
        have hbel := HS.out.bel
        go_wp2
        go_ret
        exact ⟨rfl, hbel⟩
end Go.Proofs.Ytipjhlabcbkgjaa.aggParts

/- Objects side by side. -/
import Derived.Test.YtcjcbbpolhpphaaQuRef3
set_option maxRecDepth 20000
set_option linter.unusedSimpArgs false
set_option linter.unusedVariables false
namespace Go.Proofs.Ytcjcbbpolhpphaa.Qu
open Go.RowKit Go.Proofs.Ytcjcbbpolhpphaa.Vi

theorem type_ne {w : World} {b g : Nat} {cur cur' : Array Value} {T T' : TypeId} {f f' : Nat × Nat} (h : w.heap[b]? = some (.cells cur T f)) (k : w.heap[g]? = some (.cells cur' T' f')) (hT : T ≠ T') : g ≠ b := by
  rintro rfl
  rw [h] at k
  injection k with k
  injection k with _ k
  exact hT k
theorem map_cells {w : World} {b g : Nat} {cur : Array Value} {T : TypeId} {f : Nat × Nat} {es : Array MapEntry} {cl : Nat} (h : w.heap[b]? = some (.cells cur T f)) (k : w.heap[g]? = some (.map es cl)) : g ≠ b := by
  rintro rfl
  rw [h] at k
  injection k with k
  cases k
/-- What an answer may turn: the read itself, and a map. -/
theorem RdG.kind {w : World} {B0 B b : Nat} {R : RS} (h : RdG w B0 B b R) {k : Nat} (hk : rmods w b k) : (∃ cur : Array Value, w.heap[k]? = some (.cells cur 67 (0, 0))) ∨ ∃ es cl, w.heap[k]? = some (.map es cl) := by
  rcases hk with rfl | hk
  · exact Or.inl h.at_.big
  · rcases h.mp with ⟨c, -⟩ | ⟨m, c, hm⟩
    · rw [c] at hk; cases hk
    · rw [c] at hk
      injection hk with hk
      injection hk with hk
      injection hk with hk
      subst hk; exact Or.inr hm.heap
/-- A block of cells of another type stays. -/
theorem RdG.stays {w w' : World} {B0 B b g : Nat} {R : RS} {cur : Array Value} {T : TypeId} {f : Nat × Nat} (h : RdG w B0 B b R) (k : ButP (rmods w b) w w') (hg : w.heap[g]? = some (.cells cur T f)) (hT : T ≠ 67) : w'.heap[g]? = w.heap[g]? := by
  refine k.block g (Array.getElem?_eq_some_iff.1 hg).1 fun hm => ?_
  rcases h.kind hm with ⟨c, e⟩ | ⟨es, cl, e⟩
  · exact type_ne hg e hT rfl
  · exact map_cells hg e rfl
theorem WAt.beside_r {w w' : World} {B0 B b bw : Nat} {R : RS} {S : QS} (hW : WAt w bw 64 S) (h : RdG w B0 B b R) (k : ButP (rmods w b) w w') : WAt w' bw 64 S := by
  obtain ⟨cur, hc⟩ := hW.big
  exact hW.of (h.stays k hc (by decide))
theorem DAt.beside_r {w w' : World} {B0 B B' b d : Nat} {R R' : RS} (hD : DAt w B' d R') (h : RdG w B0 B b R) (k : ButP (rmods w b) w w') : DAt w' B' d R' := by
  obtain ⟨cur, hc⟩ := hD.big
  refine hD.other fun g hg hk => ?_
  rcases hk with rfl | ⟨c, e⟩ | ⟨c, e⟩
  · exact h.stays k hc (by decide)
  · exact h.stays k e (by decide)
  · exact h.stays k e (by decide)
theorem RdG.beside_d {w w' : World} {B0 B B' b d : Nat} {R R' : RS} (h : RdG w B0 B b R) (hD : DAt w B' d R') (k : ButP (fun g => g = d) w w') : RdG w' B0 B b R := by
  obtain ⟨cur, hc⟩ := hD.big
  refine h.other fun g hg hk => k.block g hg fun e => ?_
  subst e
  rcases hk with hk | ⟨c, e⟩
  · rcases h.kind hk with ⟨c, e⟩ | ⟨es, cl, e⟩
    · exact type_ne hc e (by decide) rfl
    · exact map_cells hc e rfl
  · exact type_ne hc e (by decide) rfl
theorem RdG.beside_w {w : World} {B0 B b bw : Nat} {R : RS} {S : QS} (h : RdG w B0 B b R) (hW : WAt w bw 64 S) (n : Int) : RdG (hearW w bw S n) B0 B b R := by
  obtain ⟨cur, hc⟩ := hW.big
  have hb := hearW_but w bw S n
  refine h.other fun g hg hk => hb.block g hg fun e => ?_
  subst e
  rcases hk with hk | ⟨c, e⟩
  · rcases h.kind hk with ⟨c, e⟩ | ⟨es, cl, e⟩
    · exact type_ne hc e (by decide) rfl
    · exact map_cells hc e rfl
  · exact type_ne hc e (by decide) rfl
theorem DAt.beside_w {w : World} {B d bw : Nat} {R : RS} {S : QS} (h : DAt w B d R) (hW : WAt w bw 64 S) (n : Int) : DAt (hearW w bw S n) B d R := by
  obtain ⟨cur, hc⟩ := hW.big
  have hb := hearW_but w bw S n
  obtain ⟨cur2, hc2⟩ := h.big
  refine h.other fun g hg hk => hb.block g hg fun e => ?_
  subst e
  rcases hk with rfl | ⟨c, e⟩ | ⟨c, e⟩
  · exact type_ne hc hc2 (by decide) rfl
  · exact type_ne hc e (by decide) rfl
  · exact type_ne hc e (by decide) rfl
theorem WAt.beside_d {w w' : World} {B d bw : Nat} {R : RS} {S : QS} (h : WAt w bw 64 S) (hD : DAt w B d R) (k : ButP (fun g => g = d) w w') : WAt w' bw 64 S := by
  obtain ⟨cur, hc⟩ := h.big
  obtain ⟨cur2, hc2⟩ := hD.big
  exact h.of (k.block bw h.lt fun e => type_ne hc hc2 (by decide) e.symm)
theorem hearW_below {w : World} {B bw : Nat} {S : QS} (h : B ≤ bw) (n : Int) : Below B w (hearW w bw S n) := by
  unfold hearW
  split
  · exact (Below.refl B w).setCell (p := ⟨bw, 17 + n.toNat, none⟩) h _
  · exact Below.refl B w
theorem RdAt.below {w w' : World} {B b : Nat} {R : RS} (h : RdAt w B b R) (k : ButP (rmods w b) w w') (hB : B ≤ w.heap.size) : Below B w w' := k.below (fun g hg => h.mods_hi hg) hB
/-- Numbers that stand in the text. -/
theorem lit_ns (w : World) (xs : List Int) (hw : ∀ n ∈ xs, -9223372036854775808 ≤ n ∧ n ≤ 9223372036854775807) (hl : xs.length ≤ 1000) : Ns (w.alloc (.cells (xs.map icell).toArray 3)) (.slice (some ⟨w.heap.size, 0, none⟩) xs.length xs.length) xs := by
  refine ⟨⟨_, _, rfl, Or.inr ⟨w.heap.size, 0, rfl, by simp, fun j hj => ?_⟩⟩, hw, by omega, Nat.le_refl _⟩
  rw [Nat.zero_add, World.cell?_alloc_mark]
  simp [hj, icell]
/-- The law's point. -/
def ptQ (t c : Int) : Pt := ⟨⟨#[97]⟩, t, c, ⟨c, 0, 1⟩⟩
set_option maxHeartbeats 4000000 in
theorem pointq_is (t c : Int) (w : World) (hc : -9223372036854775808 ≤ c ∧ c ≤ 9223372036854775807) : Calls Try.prog 34 #[.int .i64 t, .int .i64 c] w fun e w' => e = .returned (ptV (ptQ t c)) ∧ Below w.heap.size w w' := by
  have hwc : IntKind.i64.wrap c = c := by rw [IntKind.wrap_i64]; omega
  unfold ptV ptQ
  dsimp only
  go_enter Try.func34, Try.ntmps34
  go_wp2
  refine bodyPost_ret (v := .agg #[.string ⟨#[97]⟩, .int .i64 t, .int .i64 c, .int .i64 c, .int .i64 0, .int .i64 1]) (by simp [results, Try.results34, go_sem]; try rfl) rfl ⟨rfl, ?_⟩
  exact (Below.refl _ _).alloc (Nat.le_refl _) _
/-- A point that the text composes, as a slice. -/
theorem lst_one (w : World) (p : Pt) : Lst (w.alloc (.cells #[.string p.s, .int .i64 p.t, .int .i64 p.v, .int .i64 p.st.c, .int .i64 p.st.s, .int .i64 p.st.q] 55)) (w.alloc (.cells #[.string p.s, .int .i64 p.t, .int .i64 p.v, .int .i64 p.st.c, .int .i64 p.st.s, .int .i64 p.st.q] 55)).heap.size (some ⟨w.heap.size, 0, none⟩) 1 [p] := by
  refine ⟨⟨Or.inr ⟨w.heap.size, 0, rfl, by simp, fun j hj => ?_⟩⟩, by simp, fun k => by cases k⟩
  simp at hj
  subst hj
  constructor <;> simp [go_sem]
def meetB (n w r : Int) : Bool := decide (1 ≤ w) && (decide (w ≤ n) && (decide (1 ≤ r) && (decide (r ≤ n) && decide (n < w + r))))
set_option maxHeartbeats 2000000 in
theorem meet_is (n w r : Int) (W : World) (hn : -9223372036854775808 ≤ n ∧ n ≤ 9223372036854775807) : Calls Try.prog 30 #[.int .i64 n, .int .i64 w, .int .i64 r] W fun e W' => e = .returned (.bool (meetB n w r)) ∧ W = W' := by
  obtain ⟨z, hz⟩ : ∃ z, meetB n w r = z := ⟨_, rfl⟩
  have HZ := Lib.hid hz
  rw [hz]
  unfold meetB at hz
  by_cases h1 : 1 ≤ w
  · by_cases h2 : w ≤ n
    · by_cases h3 : 1 ≤ r
      · by_cases h4 : r ≤ n
        · have hw1 : IntKind.i64.wrap (n - r) = n - r := by rw [IntKind.wrap_i64]; omega
          by_cases h5 : n - r < w
          · rw [decide_eq_true h1, decide_eq_true h2, decide_eq_true h3, decide_eq_true h4, decide_eq_true (show n < w + r by omega)] at hz
            subst hz
            go_enter Try.func30, Try.ntmps30
            go_wp2
            go_ret
            exact ⟨rfl, rfl⟩
          · rw [decide_eq_true h1, decide_eq_true h2, decide_eq_true h3, decide_eq_true h4, decide_eq_false (show ¬ n < w + r by omega)] at hz
            subst hz
            go_enter Try.func30, Try.ntmps30
            go_wp2
            go_ret
            exact ⟨rfl, rfl⟩
        · rw [decide_eq_true h1, decide_eq_true h2, decide_eq_true h3, decide_eq_false h4] at hz
          subst hz
          go_enter Try.func30, Try.ntmps30
          go_wp2
          go_ret
          exact ⟨rfl, rfl⟩
      · rw [decide_eq_true h1, decide_eq_true h2, decide_eq_false h3] at hz
        subst hz
        go_enter Try.func30, Try.ntmps30
        go_wp2
        go_ret
        exact ⟨rfl, rfl⟩
    · rw [decide_eq_true h1, decide_eq_false h2] at hz
      subst hz
      go_enter Try.func30, Try.ntmps30
      go_wp2
      go_ret
      exact ⟨rfl, rfl⟩
  · rw [decide_eq_false h1] at hz
    subst hz
    go_enter Try.func30, Try.ntmps30
    go_wp2
    go_ret
    exact ⟨rfl, rfl⟩
end Go.Proofs.Ytcjcbbpolhpphaa.Qu

/- A collection as it lies in memory; all, has, Len, Room, New. -/
import Derived.Test.YtolmhlfegllfoaaHiMap
import Derived.Test.YtolmhlfegllfoaaHiOrd
import Derived.Test.YtolmhlfegllfoaaBlockOwn
import Derived.Deep.RegionHeld
import Derived.BigQuiet
set_option maxRecDepth 20000
set_option linter.unusedSimpArgs false
set_option linter.unusedVariables false
namespace Go.Proofs.Ytolmhlfegllfoaa.Qu.Hi
open Go.RowKit Go.Maps Go.Proofs.Ytolmhlfegllfoaa.Vi Go.Proofs.Ytolmhlfegllfoaa.Mk

theorem MapAt.kept {w w' : World} {m : Nat} {L : List Hk} (h : MapAt w m L) (k : w'.heap[m]? = w.heap[m]?) : MapAt w' m L := by
  obtain ⟨⟨D, ⟨es, cl, h1, h2⟩, h3⟩, h4⟩ := h
  exact ⟨⟨D, ⟨es, cl, k.trans h1, h2⟩, h3⟩, h4⟩
theorem MapAt.heap {w : World} {m : Nat} {L : List Hk} (h : MapAt w m L) : ∃ es cl, w.heap[m]? = some (.map es cl) := by
  obtain ⟨⟨D, ⟨es, cl, h1, h2⟩, h3⟩, h4⟩ := h
  exact ⟨es, cl, h1⟩
/-- A collection at block b, its map at block mv. -/
structure HiAt (w : World) (B b : Nat) (mv : Option Nat) (room : Int) (L : List Hk) : Prop where
  obj : w.heap[b]? = some (.cells #[.int .i64 room, .map mv] 61 (0, 0))
  lo : B ≤ b
  none_ : mv = none → L = [] ∧ room = 0
  some_ : ∀ m, mv = some m → B ≤ m ∧ MapAt w m L
  rm : 0 ≤ room ∧ room ≤ 600
  len : (L.length : Int) ≤ room
  good : Good L
theorem HiAt.lt {w : World} {B b : Nat} {mv : Option Nat} {room : Int} {L : List Hk} (h : HiAt w B b mv room L) : b < w.heap.size := (Array.getElem?_eq_some_iff.1 h.obj).1
theorem HiAt.c0 {w : World} {B b : Nat} {mv : Option Nat} {room : Int} {L : List Hk} (h : HiAt w B b mv room L) : w.cell? ⟨b, 0, none⟩ = some (.int .i64 room) := by
  unfold World.cell?; dsimp only; rw [h.obj]; rfl
theorem HiAt.c1 {w : World} {B b : Nat} {mv : Option Nat} {room : Int} {L : List Hk} (h : HiAt w B b mv room L) : w.cell? ⟨b, 1, none⟩ = some (.map mv) := by
  unfold World.cell?; dsimp only; rw [h.obj]; rfl
theorem HiAt.mlt {w : World} {B b m : Nat} {room : Int} {L : List Hk} (h : HiAt w B b (some m) room L) : m < w.heap.size := by
  obtain ⟨es, cl, e⟩ := (h.some_ m rfl).2.heap
  exact (Array.getElem?_eq_some_iff.1 e).1
theorem HiAt.other {w w' : World} {B b : Nat} {mv : Option Nat} {room : Int} {L : List Hk} (h : HiAt w B b mv room L) (k : w'.heap[b]? = w.heap[b]?) (km : ∀ m, mv = some m → w'.heap[m]? = w.heap[m]?) : HiAt w' B b mv room L :=
  ⟨k.trans h.obj, h.lo, h.none_, fun m e => ⟨(h.some_ m e).1, (h.some_ m e).2.kept (km m e)⟩, h.rm, h.len, h.good⟩
theorem HiAt.later {w w' : World} {B b : Nat} {mv : Option Nat} {room : Int} {L : List Hk} (h : HiAt w B b mv room L) (k : Below w.heap.size w w') : HiAt w' B b mv room L :=
  h.other (k.block _ h.lt) fun m e => by subst e; exact k.block _ h.mlt
theorem HiAt.alloc {w : World} {B b : Nat} {mv : Option Nat} {room : Int} {L : List Hk} (h : HiAt w B b mv room L) (o : Obj) : HiAt (w.alloc o) B b mv room L := h.later ((Below.refl _ _).alloc (Nat.le_refl _) o)
theorem HiAt.drew {w : World} {B b : Nat} {mv : Option Nat} {room : Int} {L : List Hk} (h : HiAt w B b mv room L) : HiAt w.drew B b mv room L := h.later (Below.refl _ _).drew
/-- A block that another type of cells lies in is neither the object nor its map. -/
theorem HiAt.off {w : World} {B b g : Nat} {mv : Option Nat} {room : Int} {L : List Hk} {cur : Array Value} {T : TypeId} {z : Nat × Nat} (h : HiAt w B b mv room L) (hT : T ≠ 61) (k : w.heap[g]? = some (.cells cur T z)) : g ≠ b ∧ some g ≠ mv := by
  constructor
  · rintro rfl
    rw [h.obj] at k
    injection k with k
    injection k with _ k
    exact hT k.symm
  · intro e
    obtain ⟨es, cl, e2⟩ := (h.some_ g e.symm).2.heap
    rw [e2] at k
    injection k with k
    cases k
theorem zeroU (w : World) : (zeroValue 72).run Try.prog w = .ok (.agg #[]) w := by kernel_rfl
theorem undM : Try.prog.underlying TMM = some (.map TKK 72) := Try.underlying59
/-- What is looked up. -/
theorem HiAt.look {w : World} {B b : Nat} {mv : Option Nat} {room : Int} {L : List Hk} (h : HiAt w B b mv room L) {x : Hk} (hx : x.big) : (Instr.lookup TMM (.map mv) (hkV x) true).run Try.prog w = .ok (.tuple #[.agg #[], .bool (hasB L x)]) w := by
  cases mv with
  | none =>
    obtain ⟨rfl, -⟩ := h.none_ rfl
    have := Maps.look_nil (P := Try.prog) (w := w) true klaw undM (zeroU w) (key_is hx)
    rw [this]
    unfold hasB
    simp
  | some m =>
    obtain ⟨-, ⟨D, hD, hI⟩, -⟩ := h.some_ m rfl
    obtain ⟨v, ps, hrun, hv⟩ := hD.look_ok klaw undM (zeroU w) (zd := .agg []) (zp := []) unitElem_mk (key_is hx)
    obtain ⟨rfl, -⟩ := unitElem_inv hv
    rw [hrun, hI.has x hx]
/-- .. and how many there are. -/
theorem HiAt.lenrun {w : World} {B b : Nat} {mv : Option Nat} {room : Int} {L : List Hk} (h : HiAt w B b mv room L) (T : TypeId) : (Builtin.len_ #[TMM] T #[.map mv]).run Try.prog w = .ok (.int .i64 (L.length : Int)) w := by
  cases mv with
  | none =>
    obtain ⟨rfl, -⟩ := h.none_ rfl
    exact Maps.len_nil undM T
  | some m =>
    obtain ⟨-, ⟨D, hD, hI⟩, -⟩ := h.some_ m rfl
    rw [hD.len undM T, hI.size]
theorem all_is {w : World} {B b : Nat} {mv : Option Nat} {room : Int} {L : List Hk} (h : HiAt w B b mv room L) : Calls Try.prog 30 #[.pointer (some ⟨b, 0, none⟩)] w fun e w' => e = .returned (.map mv) ∧ w = w' := by
  have c1 := h.c1
  clear h
  go_enter Try.func30, Try.ntmps30
  go_wp2
  go_ret
  exact ⟨rfl, rfl⟩
theorem all_obj {w : World} {b : Nat} {mv : Option Nat} {room : Int} (h : w.heap[b]? = some (.cells #[.int .i64 room, .map mv] 61 (0, 0))) : Calls Try.prog 30 #[.pointer (some ⟨b, 0, none⟩)] w fun e w' => e = .returned (.map mv) ∧ w = w' := by
  have c1 : w.cell? ⟨b, 1, none⟩ = some (.map mv) := by unfold World.cell?; dsimp only; rw [h]; rfl
  clear h
  go_enter Try.func30, Try.ntmps30
  go_wp2
  go_ret
  exact ⟨rfl, rfl⟩
theorem all_nil (w : World) : Calls Try.prog 30 #[.pointer none] w fun e w' => e = .returned (.map none) ∧ w = w' := by
  go_enter Try.func30, Try.ntmps30
  go_wp2
  go_ret
  exact ⟨rfl, rfl⟩
theorem len_is {w : World} {B b : Nat} {mv : Option Nat} {room : Int} {L : List Hk} (h : HiAt w B b mv room L) : Calls Try.prog 25 #[.pointer (some ⟨b, 0, none⟩)] w fun e w' => e = .returned (.int .i64 (L.length : Int)) ∧ w = w' := by
  have ka := all_is h
  have hl := h.lenrun
  clear h
  go_enter Try.func25, Try.ntmps25
  go_wp2_with (go_at_call 30; (with_reducible refine ka.mono ?_); rintro e w1 ⟨rfl, rfl⟩)
  go_ret
  exact ⟨rfl, rfl⟩
theorem len_nil (w : World) : Calls Try.prog 25 #[.pointer none] w fun e w' => e = .returned (.int .i64 0) ∧ w = w' := by
  have ka := all_nil w
  have hl := fun T => Maps.len_nil (P := Try.prog) (w := w) undM T
  go_enter Try.func25, Try.ntmps25
  go_wp2_with (go_at_call 30; (with_reducible refine ka.mono ?_); rintro e w1 ⟨rfl, rfl⟩)
  go_ret
  exact ⟨rfl, rfl⟩
theorem room_is {w : World} {B b : Nat} {mv : Option Nat} {room : Int} {L : List Hk} (h : HiAt w B b mv room L) : Calls Try.prog 26 #[.pointer (some ⟨b, 0, none⟩)] w fun e w' => e = .returned (.int .i64 (room - (L.length : Int))) ∧ Below w.heap.size w w' := by
  have c0 := h.c0
  have c1 := h.c1
  have hl := fun n T => (h.later (below_drewN (Below.refl _ _) n)).lenrun T
  have h1 := h.rm
  have h2 := h.len
  have hw : IntKind.i64.wrap (room - (L.length : Int)) = room - (L.length : Int) := by rw [IntKind.wrap_i64]; omega
  clear h h1 h2
  go_enter Try.func26, Try.ntmps26
  go_wp2_with fail
  go_quiet (fail)
  go_wp2
  go_ret
  exact ⟨rfl, below_drewN (Below.refl _ _) _⟩
theorem room_nil (w : World) : Calls Try.prog 26 #[.pointer none] w fun e w' => e = .returned (.int .i64 0) ∧ w = w' := by
  go_enter Try.func26, Try.ntmps26
  go_wp2
  go_ret
  exact ⟨rfl, rfl⟩
/-- A key's cells at a block's beginning. -/
structure K7 (w : World) (g : Nat) (x : Hk) : Prop where
  c0 : w.cell? ⟨g, 0, none⟩ = some (.string x.p.s)
  c1 : w.cell? ⟨g, 1, none⟩ = some (.int .i64 x.p.t)
  c2 : w.cell? ⟨g, 2, none⟩ = some (.int .i64 x.p.v)
  c3 : w.cell? ⟨g, 3, none⟩ = some (.int .i64 x.p.st.c)
  c4 : w.cell? ⟨g, 4, none⟩ = some (.int .i64 x.p.st.s)
  c5 : w.cell? ⟨g, 5, none⟩ = some (.int .i64 x.p.st.q)
  c6 : w.cell? ⟨g, 6, none⟩ = some (.int .i64 x.n)
theorem K7.room {w : World} {g : Nat} {x : Hk} (h : K7 w g x) : g < w.heap.size := World.block_lt_of_cell? w _ h.c0
theorem K7.other {w w' : World} {g : Nat} {x : Hk} (h : K7 w g x) (k : w'.heap[g]? = w.heap[g]?) : K7 w' g x :=
  ⟨(World.cell?_of_block (w := w) k).trans h.c0, (World.cell?_of_block (w := w) k).trans h.c1, (World.cell?_of_block (w := w) k).trans h.c2, (World.cell?_of_block (w := w) k).trans h.c3, (World.cell?_of_block (w := w) k).trans h.c4, (World.cell?_of_block (w := w) k).trans h.c5, (World.cell?_of_block (w := w) k).trans h.c6⟩
theorem K7.later {w w' : World} {g : Nat} {x : Hk} (h : K7 w g x) (k : Below w.heap.size w w') : K7 w' g x := h.other (k.block _ h.room)
abbrev box7 (x : Hk) : Obj := .cells #[.string x.p.s, .int .i64 x.p.t, .int .i64 x.p.v, .int .i64 x.p.st.c, .int .i64 x.p.st.s, .int .i64 x.p.st.q, .int .i64 x.n] 66
theorem K7.new (w : World) (x : Hk) : K7 (w.alloc (box7 x)) w.heap.size x := by constructor <;> simp [go_sem]
structure HS (w : World) (g B b : Nat) (mv : Option Nat) (room : Int) (L : List Hk) (x : Hk) (z : Bool) (X : World) : Prop where
  key : K7 X g x
  at_ : HiAt X B b mv room L
  bel : Below w.heap.size w X
  big : x.big
  is_ : hasB L x = z
theorem HS.alloc {w X : World} {g B b : Nat} {mv : Option Nat} {room : Int} {L : List Hk} {x : Hk} {z : Bool} (h : HS w g B b mv room L x z X) (o : Obj) : HS w g B b mv room L x z (X.alloc o) :=
  ⟨h.key.later ((Below.refl _ _).alloc (Nat.le_refl _) o), h.at_.alloc o, bel_new h.bel o, h.big, h.is_⟩
theorem HS.drew {w X : World} {g B b : Nat} {mv : Option Nat} {room : Int} {L : List Hk} {x : Hk} {z : Bool} (h : HS w g B b mv room L x z X) : HS w g B b mv room L x z X.drew :=
  ⟨h.key.later (Below.refl _ _).drew, h.at_.drew, h.bel.drew, h.big, h.is_⟩
set_option maxHeartbeats 2000000 in
theorem has_is {w : World} {B b : Nat} {mv : Option Nat} {room : Int} {L : List Hk} (h : HiAt w B b mv room L) (x : Hk) (hx : x.big) : Calls Try.prog 39 #[.pointer (some ⟨b, 0, none⟩), hkV x] w fun e w' => e = .returned (.bool (hasB L x)) ∧ Below w.heap.size w w' := by
  have ka := fun (W : World) (h : HiAt W B b mv room L) => all_is h
  obtain ⟨z, hz⟩ : ∃ z, hasB L x = z := ⟨_, rfl⟩
  have H0 : HS w w.heap.size B b mv room L x z (w.alloc (box7 x)) := ⟨K7.new w x, h.alloc _, (Below.refl _ _).alloc (Nat.le_refl _) _, hx, hz⟩
  rw [hz]
  clear hz
  clear h hx
  unfold hkV box7 at *
  go_enter Try.func39, Try.ntmps39
  go_wp2_with fail
  refine wp_region_held_drew (S := (HS w w.heap.size B b mv room L x z)) (by kernel_rfl) H0.drew (fun hHeld => ?_)
  refine wpAnyH_take (i := 0) (oi := ?r1o) (v := ?r1v) ?r1h (by kernel_rfl) (by kernel_rfl) (by kernel_rfl) ?r1q ?r1y hHeld ?r1r
  case r1h => (simp only [List.getElem?_toArray, List.getElem?_cons_zero]; rfl)
  case r1q => exact fun _ _ _ h => h
  case r1y => (refine Or.inl ⟨by first | kernel_rfl | rfl, ?_⟩; intro w hSw; (try dsimp only at hSw); obtain ⟨⟨x0, x1, x2, x3, x4, x5, x6⟩, h7, -, hx7, hz7⟩ := hSw; have hl := h7.look hx7; unfold hkV at hl; rw [hz7] at hl; go_simp <;> (try with_reducible rfl))
  try simp only [Act.put, List.setIfInBounds_toArray, List.set_cons_zero, List.set_cons_succ]
  refine wpAnyH_take (i := 2) (oi := ?r2o) (v := ?r2v) ?r2h (by kernel_rfl) (by kernel_rfl) (by kernel_rfl) ?r2q ?r2y hHeld ?r2r
  case r2h => (simp only [List.getElem?_toArray, List.getElem?_cons_succ, List.getElem?_cons_zero]; rfl)
  case r2q => exact fun _ _ _ h => h
  case r2y => (refine Or.inl ⟨by first | kernel_rfl | rfl, ?_⟩; intro w hSw; (try dsimp only at hSw); obtain ⟨⟨x0, x1, x2, x3, x4, x5, x6⟩, h7, -, hx7, hz7⟩ := hSw; have hl := h7.look hx7; unfold hkV at hl; rw [hz7] at hl; go_simp <;> (try with_reducible rfl))
  try simp only [Act.put, List.setIfInBounds_toArray, List.set_cons_zero, List.set_cons_succ]
  refine wpAnyH_ready (rs := [1, 7]) (by kernel_rfl) (by simp) ?_
  refine (AllReadyH.cons rfl (fun K hK => ?_) (AllReadyH.cons rfl (fun K hK => ?_) AllReadyH.nil))
  ·
    go_simp
    (go_at_call 30; (with_reducible refine (ka _ hHeld.at_).mono ?_); rintro e w1 ⟨rfl, rfl⟩)
    refine hK.out _ _ (hHeld) (fun hHeld => ?_)
    clear hK K
    try simp only [Act.put, List.setIfInBounds_toArray, List.set_cons_zero, List.set_cons_succ]
    refine wpAnyH_take (i := 3) (oi := ?r3o) (v := ?r3v) ?r3h (by kernel_rfl) (by kernel_rfl) (by kernel_rfl) ?r3q ?r3y hHeld ?r3r
    case r3h => (simp only [List.getElem?_toArray, List.getElem?_cons_succ, List.getElem?_cons_zero]; rfl)
    case r3q => exact fun _ _ _ h => h
    case r3y => (refine Or.inl ⟨by first | kernel_rfl | rfl, ?_⟩; intro w hSw; (try dsimp only at hSw); obtain ⟨⟨x0, x1, x2, x3, x4, x5, x6⟩, h7, -, hx7, hz7⟩ := hSw; have hl := h7.look hx7; unfold hkV at hl; rw [hz7] at hl; go_simp <;> (try with_reducible rfl))
    try simp only [Act.put, List.setIfInBounds_toArray, List.set_cons_zero, List.set_cons_succ]
    refine wpAnyH_take (i := 4) (oi := ?r4o) (v := ?r4v) ?r4h (by kernel_rfl) (by kernel_rfl) (by kernel_rfl) ?r4q ?r4y hHeld ?r4r
    case r4h => (simp only [List.getElem?_toArray, List.getElem?_cons_succ, List.getElem?_cons_zero]; rfl)
    case r4q => exact fun _ _ _ h => h
    case r4y => (refine Or.inl ⟨by first | kernel_rfl | rfl, ?_⟩; intro w hSw; (try dsimp only at hSw); obtain ⟨⟨x0, x1, x2, x3, x4, x5, x6⟩, h7, -, hx7, hz7⟩ := hSw; have hl := h7.look hx7; unfold hkV at hl; rw [hz7] at hl; go_simp <;> (try with_reducible rfl))
    try simp only [Act.put, List.setIfInBounds_toArray, List.set_cons_zero, List.set_cons_succ]
    refine wpAnyH_take (i := 5) (oi := ?r5o) (v := ?r5v) ?r5h (by kernel_rfl) (by kernel_rfl) (by kernel_rfl) ?r5q ?r5y hHeld ?r5r
    case r5h => (simp only [List.getElem?_toArray, List.getElem?_cons_succ, List.getElem?_cons_zero]; rfl)
    case r5q => exact fun _ _ _ h => h
    case r5y => (refine Or.inl ⟨by first | kernel_rfl | rfl, ?_⟩; intro w hSw; (try dsimp only at hSw); obtain ⟨⟨x0, x1, x2, x3, x4, x5, x6⟩, h7, -, hx7, hz7⟩ := hSw; have hl := h7.look hx7; unfold hkV at hl; rw [hz7] at hl; go_simp <;> (try with_reducible rfl))
    try simp only [Act.put, List.setIfInBounds_toArray, List.set_cons_zero, List.set_cons_succ]
    refine wpAnyH_take (i := 6) (oi := ?r6o) (v := ?r6v) ?r6h (by kernel_rfl) (by kernel_rfl) (by kernel_rfl) ?r6q ?r6y hHeld ?r6r
    case r6h => (simp only [List.getElem?_toArray, List.getElem?_cons_succ, List.getElem?_cons_zero]; rfl)
    case r6q => exact fun _ _ _ h => h
    case r6y => (refine Or.inl ⟨by first | kernel_rfl | rfl, ?_⟩; intro w hSw; (try dsimp only at hSw); obtain ⟨⟨x0, x1, x2, x3, x4, x5, x6⟩, h7, -, hx7, hz7⟩ := hSw; have hl := h7.look hx7; unfold hkV at hl; rw [hz7] at hl; go_simp <;> (try with_reducible rfl))
    try simp only [Act.put, List.setIfInBounds_toArray, List.set_cons_zero, List.set_cons_succ]
    refine wpAnyH_ready (rs := [7]) (by kernel_rfl) (by simp) ?_
    refine (AllReadyH.cons rfl (fun K hK => ?_) AllReadyH.nil)
    go_simp
    skip
    refine hK.out _ _ (hHeld.alloc _) (fun hHeld => ?_)
    clear hK K
    try simp only [Act.put, List.setIfInBounds_toArray, List.set_cons_zero, List.set_cons_succ]
    refine wpAnyH_ready (rs := [8]) (by kernel_rfl) (by simp) ?_
    refine (AllReadyH.cons rfl (fun K hK => ?_) AllReadyH.nil)
    go_simp
    skip
    refine hK.out _ _ (hHeld) (fun hHeld => ?_)
    clear hK K
    try simp only [Act.put]
    refine wpAnyH_take (i := 9) (oi := ?r7o) (v := ?r7v) ?r7h (by kernel_rfl) (by kernel_rfl) (by kernel_rfl) ?r7q ?r7y hHeld ?r7r
    case r7h => (simp only [List.getElem?_toArray, List.getElem?_cons_succ, List.getElem?_cons_zero]; rfl)
    case r7q => exact fun _ _ _ h => h
    case r7y => (refine Or.inl ⟨by first | kernel_rfl | rfl, ?_⟩; intro w hSw; (try dsimp only at hSw); obtain ⟨⟨x0, x1, x2, x3, x4, x5, x6⟩, h7, -, hx7, hz7⟩ := hSw; have hl := h7.look hx7; unfold hkV at hl; rw [hz7] at hl; go_simp <;> (try with_reducible rfl))
    try simp only [Act.put, List.setIfInBounds_toArray, List.set_cons_zero, List.set_cons_succ]
    refine wpAnyH_done (by kernel_rfl) ?_ _
    go_wp2
    go_ret
    exact ⟨rfl, hHeld.bel⟩
  ·
    go_simp
    skip
    refine hK.out _ _ (hHeld.alloc _) (fun hHeld => ?_)
    clear hK K
    try simp only [Act.put, List.setIfInBounds_toArray, List.set_cons_zero, List.set_cons_succ]
    refine wpAnyH_ready (rs := [1]) (by kernel_rfl) (by simp) ?_
    refine (AllReadyH.cons rfl (fun K hK => ?_) AllReadyH.nil)
    go_simp
    (go_at_call 30; (with_reducible refine (ka _ hHeld.at_).mono ?_); rintro e w1 ⟨rfl, rfl⟩)
    refine hK.out _ _ (hHeld) (fun hHeld => ?_)
    clear hK K
    try simp only [Act.put, List.setIfInBounds_toArray, List.set_cons_zero, List.set_cons_succ]
    refine wpAnyH_take (i := 3) (oi := ?r8o) (v := ?r8v) ?r8h (by kernel_rfl) (by kernel_rfl) (by kernel_rfl) ?r8q ?r8y hHeld ?r8r
    case r8h => (simp only [List.getElem?_toArray, List.getElem?_cons_succ, List.getElem?_cons_zero]; rfl)
    case r8q => exact fun _ _ _ h => h
    case r8y => (refine Or.inl ⟨by first | kernel_rfl | rfl, ?_⟩; intro w hSw; (try dsimp only at hSw); obtain ⟨⟨x0, x1, x2, x3, x4, x5, x6⟩, h7, -, hx7, hz7⟩ := hSw; have hl := h7.look hx7; unfold hkV at hl; rw [hz7] at hl; go_simp <;> (try with_reducible rfl))
    try simp only [Act.put, List.setIfInBounds_toArray, List.set_cons_zero, List.set_cons_succ]
    refine wpAnyH_take (i := 4) (oi := ?r9o) (v := ?r9v) ?r9h (by kernel_rfl) (by kernel_rfl) (by kernel_rfl) ?r9q ?r9y hHeld ?r9r
    case r9h => (simp only [List.getElem?_toArray, List.getElem?_cons_succ, List.getElem?_cons_zero]; rfl)
    case r9q => exact fun _ _ _ h => h
    case r9y => (refine Or.inl ⟨by first | kernel_rfl | rfl, ?_⟩; intro w hSw; (try dsimp only at hSw); obtain ⟨⟨x0, x1, x2, x3, x4, x5, x6⟩, h7, -, hx7, hz7⟩ := hSw; have hl := h7.look hx7; unfold hkV at hl; rw [hz7] at hl; go_simp <;> (try with_reducible rfl))
    try simp only [Act.put, List.setIfInBounds_toArray, List.set_cons_zero, List.set_cons_succ]
    refine wpAnyH_take (i := 5) (oi := ?r10o) (v := ?r10v) ?r10h (by kernel_rfl) (by kernel_rfl) (by kernel_rfl) ?r10q ?r10y hHeld ?r10r
    case r10h => (simp only [List.getElem?_toArray, List.getElem?_cons_succ, List.getElem?_cons_zero]; rfl)
    case r10q => exact fun _ _ _ h => h
    case r10y => (refine Or.inl ⟨by first | kernel_rfl | rfl, ?_⟩; intro w hSw; (try dsimp only at hSw); obtain ⟨⟨x0, x1, x2, x3, x4, x5, x6⟩, h7, -, hx7, hz7⟩ := hSw; have hl := h7.look hx7; unfold hkV at hl; rw [hz7] at hl; go_simp <;> (try with_reducible rfl))
    try simp only [Act.put, List.setIfInBounds_toArray, List.set_cons_zero, List.set_cons_succ]
    refine wpAnyH_take (i := 6) (oi := ?r11o) (v := ?r11v) ?r11h (by kernel_rfl) (by kernel_rfl) (by kernel_rfl) ?r11q ?r11y hHeld ?r11r
    case r11h => (simp only [List.getElem?_toArray, List.getElem?_cons_succ, List.getElem?_cons_zero]; rfl)
    case r11q => exact fun _ _ _ h => h
    case r11y => (refine Or.inl ⟨by first | kernel_rfl | rfl, ?_⟩; intro w hSw; (try dsimp only at hSw); obtain ⟨⟨x0, x1, x2, x3, x4, x5, x6⟩, h7, -, hx7, hz7⟩ := hSw; have hl := h7.look hx7; unfold hkV at hl; rw [hz7] at hl; go_simp <;> (try with_reducible rfl))
    try simp only [Act.put, List.setIfInBounds_toArray, List.set_cons_zero, List.set_cons_succ]
    refine wpAnyH_ready (rs := [8]) (by kernel_rfl) (by simp) ?_
    refine (AllReadyH.cons rfl (fun K hK => ?_) AllReadyH.nil)
    go_simp
    skip
    refine hK.out _ _ (hHeld) (fun hHeld => ?_)
    clear hK K
    try simp only [Act.put]
    refine wpAnyH_take (i := 9) (oi := ?r12o) (v := ?r12v) ?r12h (by kernel_rfl) (by kernel_rfl) (by kernel_rfl) ?r12q ?r12y hHeld ?r12r
    case r12h => (simp only [List.getElem?_toArray, List.getElem?_cons_succ, List.getElem?_cons_zero]; rfl)
    case r12q => exact fun _ _ _ h => h
    case r12y => (refine Or.inl ⟨by first | kernel_rfl | rfl, ?_⟩; intro w hSw; (try dsimp only at hSw); obtain ⟨⟨x0, x1, x2, x3, x4, x5, x6⟩, h7, -, hx7, hz7⟩ := hSw; have hl := h7.look hx7; unfold hkV at hl; rw [hz7] at hl; go_simp <;> (try with_reducible rfl))
    try simp only [Act.put, List.setIfInBounds_toArray, List.set_cons_zero, List.set_cons_succ]
    refine wpAnyH_done (by kernel_rfl) ?_ _
    go_wp2
    go_ret
    exact ⟨rfl, hHeld.bel⟩
end Go.Proofs.Ytolmhlfegllfoaa.Qu.Hi

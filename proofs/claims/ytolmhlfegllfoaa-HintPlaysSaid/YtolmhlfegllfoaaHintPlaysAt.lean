/- HintPlays: both collections side by side. -/
import Derived.Test.YtolmhlfegllfoaaHdFor
import Derived.Test.YtolmhlfegllfoaaHdNodes
import Derived.Test.YtolmhlfegllfoaaHiOps
import Derived.Test.YtolmhlfegllfoaaHintDropsWalk
set_option maxRecDepth 20000
set_option linter.unusedSimpArgs false
set_option linter.unusedVariables false
namespace Go.Proofs.Ytolmhlfegllfoaa.Qu.Hi
open Go.RowKit Go.Maps Go.Proofs.Ytolmhlfegllfoaa.Vi Go.Proofs.Ytolmhlfegllfoaa.Mk

abbrev boxHO (o : HOp) : Obj := .cells #[.int .i64 o.k, .int .i64 o.n, .string o.p.s, .int .i64 o.p.t, .int .i64 o.p.v, .int .i64 o.p.st.c, .int .i64 o.p.st.s, .int .i64 o.p.st.q, .slice o.a o.ns.length o.c] HOP
/-- The two collections, the program's with L1 and the document's with L2. -/
structure PlS (w X : World) (B b mm B2 d : Nat) (rm : Int) (L1 L2 : List Hk) (a : Option Addr) (c : Nat) : Prop where
  hi : HiAt X B b (some mm) rm L1
  do_ : DoAt X B2 d rm L2 a c
  bel : Below w.heap.size w X
  lo : w.heap.size ≤ B
  lo2 : w.heap.size ≤ B2
theorem PlS.base {w X : World} {B b mm B2 d : Nat} {rm : Int} {L1 L2 : List Hk} {a : Option Addr} {c : Nat} (h : PlS w X B b mm B2 d rm L1 L2 a c) : B2 ≤ X.heap.size := Nat.le_trans h.do_.lo (Nat.le_of_lt h.do_.lt)
theorem PlS.later {w X X' : World} {B b mm B2 d : Nat} {rm : Int} {L1 L2 : List Hk} {a : Option Addr} {c : Nat} (h : PlS w X B b mm B2 d rm L1 L2 a c) (k : Below X.heap.size X X') : PlS w X' B b mm B2 d rm L1 L2 a c :=
  ⟨h.hi.later k, h.do_.later k, bel_next h.bel k, h.lo, h.lo2⟩
theorem PlS.prog {w X X' : World} {B b mm B2 d : Nat} {rm : Int} {L1 L1' L2 : List Hk} {a : Option Addr} {c : Nat} (h : PlS w X B b mm B2 d rm L1 L2 a c) (h1 : HiAt X' B b (some mm) rm L1') (k : X.grownBy X' (some mm)) : PlS w X' B b mm B2 d rm L1' L2 a c :=
  ⟨h1, h.do_.grown h.hi k, h.bel.grown k h.bel.size fun g hg => by rw [← Option.some.inj hg]; exact Nat.le_trans h.lo (h.hi.some_ mm rfl).1, h.lo, h.lo2⟩
theorem PlS.doc {w X X' : World} {B b mm B2 d : Nat} {rm : Int} {L1 L2 L2' : List Hk} {a a' : Option Addr} {c c' : Nat} (h : PlS w X B b mm B2 d rm L1 L2 a c) (h1 : DoAt X' B2 d rm L2' a' c') (k : FrD X X' B2 d) : PlS w X' B b mm B2 d rm L1 L2' a' c' :=
  ⟨h.hi.frd h.do_ k, h1, k.bel h.bel h.lo2 h.do_.lo, h.lo, h.lo2⟩
theorem PlS.box_prog {w X X' : World} {B b mm B2 d g : Nat} {rm : Int} {L1 L2 : List Hk} {a : Option Addr} {c : Nat} {cur : Array Value} {T : TypeId} (h : PlS w X B b mm B2 d rm L1 L2 a c) (hT : T ≠ 61) (hb : X.heap[g]? = some (.cells cur T (0, 0))) (k : X.grownBy X' (some mm)) : X'.heap[g]? = some (.cells cur T (0, 0)) :=
  (k.block g (Array.getElem?_eq_some_iff.1 hb).1 fun e => (h.hi.off hT hb).2 e).trans hb
theorem PlS.box_doc {w X X' : World} {B b mm B2 d g : Nat} {rm : Int} {L1 L2 : List Hk} {a : Option Addr} {c : Nat} {cur : Array Value} {T : TypeId} (h : PlS w X B b mm B2 d rm L1 L2 a c) (hT : T ≠ 51) (hT2 : T ≠ 68) (hb : X.heap[g]? = some (.cells cur T (0, 0))) (k : FrD X X' B2 d) : X'.heap[g]? = some (.cells cur T (0, 0)) :=
  (k.block g (Array.getElem?_eq_some_iff.1 hb).1 fun hm => by
    rcases hm with rfl | ⟨-, cur2, hm⟩
    · rw [h.do_.obj] at hb
      injection hb with hb
      injection hb with _ hb
      exact hT hb.symm
    · rw [hb] at hm
      injection hm with hm
      injection hm with _ hm
      exact hT2 hm).trans hb
theorem box_later {X X' : World} {g : Nat} {o : Obj} (hb : X.heap[g]? = some o) (k : Below X.heap.size X X') : X'.heap[g]? = some o := (k.block g (Array.getElem?_eq_some_iff.1 hb).1).trans hb
/-- .. and a call's box and its point's. -/
structure PlB (w X : World) (B b mm B2 d : Nat) (rm : Int) (L1 L2 : List Hk) (a : Option Addr) (c : Nat) (g1 : Nat) (o : HOp) (g2 : Nat) (s : Pt) : Prop where
  st : PlS w X B b mm B2 d rm L1 L2 a c
  bo : X.heap[g1]? = some (boxHO o)
  bp : BoxP X g2 s
section
variable {w X X' : World} {B b mm B2 d : Nat} {rm : Int} {L1 L1' L2 L2' : List Hk} {a a' : Option Addr} {c c' : Nat} {g1 : Nat} {o : HOp} {g2 : Nat} {s : Pt}
theorem PlB.later (h : PlB w X B b mm B2 d rm L1 L2 a c g1 o g2 s) (k : Below X.heap.size X X') : PlB w X' B b mm B2 d rm L1 L2 a c g1 o g2 s := ⟨h.st.later k, box_later h.bo k, h.bp.later k⟩
theorem PlB.drew (h : PlB w X B b mm B2 d rm L1 L2 a c g1 o g2 s) : PlB w X.drew B b mm B2 d rm L1 L2 a c g1 o g2 s := h.later (Below.refl _ _).drew
theorem PlB.prog (h : PlB w X B b mm B2 d rm L1 L2 a c g1 o g2 s) (h1 : HiAt X' B b (some mm) rm L1') (k : X.grownBy X' (some mm)) : PlB w X' B b mm B2 d rm L1' L2 a c g1 o g2 s :=
  ⟨h.st.prog h1 k, h.st.box_prog (by decide) h.bo k, h.st.box_prog (by decide) h.bp k⟩
theorem PlB.doc (h : PlB w X B b mm B2 d rm L1 L2 a c g1 o g2 s) (h1 : DoAt X' B2 d rm L2' a' c') (k : FrD X X' B2 d) : PlB w X' B b mm B2 d rm L1 L2' a' c' g1 o g2 s :=
  ⟨h.st.doc h1 k, h.st.box_doc (by decide) (by decide) h.bo k, h.st.box_doc (by decide) (by decide) h.bp k⟩
theorem PlB.o0 (h : PlB w X B b mm B2 d rm L1 L2 a c g1 o g2 s) : X.cell? ⟨g1, 0, none⟩ = some (.int .i64 o.k) := by unfold World.cell?; dsimp only; rw [h.bo]; rfl
theorem PlB.o1 (h : PlB w X B b mm B2 d rm L1 L2 a c g1 o g2 s) : X.cell? ⟨g1, 1, none⟩ = some (.int .i64 o.n) := by unfold World.cell?; dsimp only; rw [h.bo]; rfl
theorem PlB.o8 (h : PlB w X B b mm B2 d rm L1 L2 a c g1 o g2 s) : X.cell? ⟨g1, 8, none⟩ = some (.slice o.a o.ns.length o.c) := by unfold World.cell?; dsimp only; rw [h.bo]; rfl
end
theorem tm5 (n : Int) : ∃ (q : Int) (k : Nat), n.tmod 5 = q ∧ k ≤ 4 ∧ ((q < 0 ∧ IntKind.i64.wrap (q + 5) = (k : Int)) ∨ (¬ q < 0 ∧ q = (k : Int))) := by
  have h1 := Int.tmod_lt_of_pos n (show (0 : Int) < 5 by decide)
  have h2 := Int.lt_tmod_of_pos n (show (0 : Int) < 5 by decide)
  by_cases h : n.tmod 5 < 0
  · exact ⟨_, (n.tmod 5 + 5).toNat, rfl, by omega, Or.inl ⟨h, by rw [IntKind.wrap_i64]; omega⟩⟩
  · exact ⟨_, (n.tmod 5).toNat, rfl, by omega, Or.inr ⟨h, by omega⟩⟩
theorem short_big {p : Pt} {n : Int} (h : Pt.wide p) (hn : I64 n) : Hk.big ⟨Pt.short p, n⟩ := ⟨by
  show (cutB p.s 60).size ≤ maxLen
  have := cutB_len p.s 60
  unfold maxLen
  omega, h.fits.t, h.fits.v, h.c, h.s, h.q, hn⟩
theorem pts_two (w : World) (p : Pt) : Pts (w.alloc (.cells #[.string p.s, .int .i64 p.t, .int .i64 p.v, .int .i64 p.st.c, .int .i64 p.st.s, .int .i64 p.st.q, .string p.s, .int .i64 p.t, .int .i64 p.v, .int .i64 p.st.c, .int .i64 p.st.s, .int .i64 p.st.q] 31)) (w.heap.size + 1) (some ⟨w.heap.size, 0, none⟩) [p, p] :=
  ⟨Or.inr ⟨w.heap.size, 0, rfl, by omega, fun j hj => by
    match j, hj with
    | 0, _ => constructor <;> simp [go_sem]
    | 1, _ => constructor <;> simp [go_sem]⟩⟩
theorem sameP_self (l : List Pt) : sameP l l = true := by unfold sameP; exact decide_eq_true rfl
theorem sameL_self (l : List Int) : sameL l l = true := by unfold sameL; exact decide_eq_true rfl
theorem pick_ns {w : World} {B : Nat} {v : Value} {q : Int → Bool} (h : IRow w B v (pick q)) : Ns w v (pick q) :=
  irow_ns h (fun n hn => by have := (pick_mem.1 hn).1; omega) (by have := pick_len q; omega)
end Go.Proofs.Ytolmhlfegllfoaa.Qu.Hi

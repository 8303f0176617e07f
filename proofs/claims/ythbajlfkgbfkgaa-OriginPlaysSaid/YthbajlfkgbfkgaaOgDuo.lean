/- The program's log and the document's side by side. -/
import Derived.Test.YthbajlfkgbfkgaaOgDad
set_option maxRecDepth 20000
set_option linter.unusedSimpArgs false
set_option linter.unusedVariables false
namespace Go.Proofs.Ythbajlfkgbfkgaa.Og
open Go.RowKit Go.Proofs.Ythbajlfkgbfkgaa.Vi Go.Proofs.Ythbajlfkgbfkgaa.Mk

/-- The blocks of H are neither's; the numbers K at u can be read, and no call turns them. -/
structure Duo (H : Nat → Prop) (w0 w : World) (b1 : Nat) (S : OS) (b2 : Nat) (T : OS) (u : Value) (K : List Int) : Prop where
  has : ∃ F1 M2 F2, LogAt w w0.heap.size b1 S F1 ∧ LogD w w0.heap.size b2 T M2 F2 ∧ (∀ q, F1 q → ¬ F2 q) ∧ (∀ q, H q → w0.heap.size ≤ q ∧ ¬ F1 q ∧ ¬ F2 q ∧ q < w.heap.size) ∧ Ns w u K ∧ (K ≠ [] → ∀ q, u.ownBlock = some q → q < w0.heap.size ∨ (¬ F1 q ∧ ¬ M2 q ∧ ¬ H q))
  bel : Below w0.heap.size w0 w
section
variable {H H' : Nat → Prop} {w0 w w' : World} {b1 b2 : Nat} {S T : OS} {u : Value} {K : List Int}
theorem Duo.later (h : Duo H w0 w b1 S b2 T u K) (k : Below w.heap.size w w') : Duo H w0 w' b1 S b2 T u K := by
  obtain ⟨⟨F1, M2, F2, h1, h2, h3, h4, h5, h6⟩, hb⟩ := h
  exact ⟨⟨F1, M2, F2, h1.later k, h2.later k, h3, fun q hq => ⟨(h4 q hq).1, (h4 q hq).2.1, (h4 q hq).2.2.1, Nat.lt_of_lt_of_le (h4 q hq).2.2.2 k.size⟩, Ns.later h5 k, h6⟩, bel_next hb k⟩
theorem Duo.less (h : Duo H w0 w b1 S b2 T u K) (k : ∀ q, H' q → H q) : Duo H' w0 w b1 S b2 T u K := by
  obtain ⟨⟨F1, M2, F2, h1, h2, h3, h4, h5, h6⟩, hb⟩ := h
  exact ⟨⟨F1, M2, F2, h1, h2, h3, fun q hq => h4 q (k q hq), h5, fun hd q hq => (h6 hd q hq).imp id fun e => ⟨e.1, e.2.1, fun x => e.2.2 (k q x)⟩⟩, hb⟩
theorem Duo.drop (h : Duo H w0 w b1 S b2 T u K) : Duo H w0 w b1 S b2 T (.slice none 0 0) [] := by
  obtain ⟨⟨F1, M2, F2, h1, h2, h3, h4, h5, h6⟩, hb⟩ := h
  exact ⟨⟨F1, M2, F2, h1, h2, h3, h4, ns_nil w, fun e => absurd rfl e⟩, hb⟩
/-- Numbers that came in. -/
theorem Duo.give (h : Duo H w0 w b1 S b2 T u K) {u' : Value} {K' : List Int} (hn : Ns w u' K') (hq : K' ≠ [] → ∀ q, u'.ownBlock = some q → q < w0.heap.size) : Duo H w0 w b1 S b2 T u' K' := by
  obtain ⟨⟨F1, M2, F2, h1, h2, h3, h4, h5, h6⟩, hb⟩ := h
  exact ⟨⟨F1, M2, F2, h1, h2, h3, h4, hn, fun hd q e => Or.inl (hq hd q e)⟩, hb⟩
/-- A block that a call has made is held from then on. -/
theorem Duo.hold (h : Duo H w0 w b1 S b2 T u K) (k : Below w.heap.size w w') : Duo (fun q => H q ∨ (w.heap.size ≤ q ∧ q < w'.heap.size)) w0 w' b1 S b2 T u K := by
  obtain ⟨⟨F1, M2, F2, h1, h2, h3, h4, h5, h6⟩, hb⟩ := h
  refine ⟨⟨F1, M2, F2, h1.later k, h2.later k, h3, fun q hq => ?_, Ns.later h5 k, fun hd q hq => (h6 hd q hq).imp id fun e => ⟨e.1, e.2.1, fun x => x.elim e.2.2 fun x => by have := Ns.own_lt h5 hd q hq; omega⟩⟩, bel_next hb k⟩
  have hs := hb.size
  rcases hq with hq | hq
  · exact ⟨(h4 q hq).1, (h4 q hq).2.1, (h4 q hq).2.2.1, Nat.lt_of_lt_of_le (h4 q hq).2.2.2 k.size⟩
  · exact ⟨by omega, fun e => by have := (h1.fp q e).2; omega, fun e => by have := (h2.fp q e).2; omega, hq.2⟩
/-- A held block is written. -/
theorem Duo.put (h : Duo H w0 w b1 S b2 T u K) {p : Nat} (hp : H p) (i : Nat) (z : Value) : Duo H w0 (w.setCell ⟨p, i, none⟩ z) b1 S b2 T u K := by
  obtain ⟨⟨F1, M2, F2, h1, h2, h3, h4, h5, h6⟩, hb⟩ := h
  have hf : FrF (fun q => q = p) w (w.setCell ⟨p, i, none⟩ z) := ⟨rfl, rfl, rfl, by simp, fun q _ hne => World.heap_setCell_off w p i z q hne⟩
  have hp4 := h4 p hp
  refine ⟨⟨F1, M2, F2, h1.off hf (fun q a e => by subst e; exact hp4.2.1 a) (fun q e => by subst e; exact hp4.1), h2.off hf (fun q a e => by subst e; exact hp4.2.2.1 a) (fun q e => by subst e; exact hp4.1), h3, fun q hq => by rw [World.size_setCell]; exact h4 q hq, Ns.frame h5 hf fun hd q hq e => ?_, h6⟩, hb.trans (hf.below (fun q e => by subst e; exact hp4.1) hb.size)⟩
  subst e
  rcases h6 hd q hq with k | k
  · omega
  · exact k.2.2 hp
theorem Duo.lg (h : Duo H w0 w b1 S b2 T u K) : Lg w0 w b1 S := by
  obtain ⟨⟨F1, M2, F2, h1, h2, h3, h4, h5, h6⟩, hb⟩ := h; exact ⟨F1, h1, hb⟩
theorem Duo.ns (h : Duo H w0 w b1 S b2 T u K) : Ns w u K := by
  obtain ⟨⟨F1, M2, F2, h1, h2, h3, h4, h5, h6⟩, hb⟩ := h; exact h5
theorem Duo.goodT (h : Duo H w0 w b1 S b2 T u K) : Good T := by
  obtain ⟨⟨F1, M2, F2, h1, h2, h3, h4, h5, h6⟩, hb⟩ := h; exact h2.good
/-- What a call that turns one log leaves. -/
def DuoDone (H : Nat → Prop) (w0 w : World) (b1 : Nat) (S : OS) (b2 : Nat) (T : OS) (u : Value) (K : List Int) (r : Value) (e : Ending) (w' : World) : Prop :=
  e = .returned r ∧ Duo H w0 w' b1 S b2 T u K ∧ ∀ q, H q → w'.heap[q]? = w.heap[q]?
theorem Duo.turn1 {F1 M2 F2 : Nat → Prop} {S' : OS} (h1 : LogAt w w0.heap.size b1 S F1) (h2 : LogD w w0.heap.size b2 T M2 F2) (h3 : ∀ q, F1 q → ¬ F2 q) (h4 : ∀ q, H q → w0.heap.size ≤ q ∧ ¬ F1 q ∧ ¬ F2 q ∧ q < w.heap.size) (h5 : Ns w u K)
    (h6 : K ≠ [] → ∀ q, u.ownBlock = some q → q < w0.heap.size ∨ (¬ F1 q ∧ ¬ M2 q ∧ ¬ H q)) (hb : Below w0.heap.size w0 w) (a1 : LogAt w' w0.heap.size b1 S' (grow F1 w w')) (a2 : FrF F1 w w') : Duo H w0 w' b1 S' b2 T u K ∧ ∀ q, H q → w'.heap[q]? = w.heap[q]? := by
  have lo : ∀ q, F1 q → w0.heap.size ≤ q := fun q hq => (h1.fp q hq).1
  refine ⟨⟨⟨grow F1 w w', M2, F2, a1, h2.off a2 (fun q a b => h3 q b a) lo, fun q hq k => ?_, fun q hq => ⟨(h4 q hq).1, fun k => ?_, (h4 q hq).2.2.1, Nat.lt_of_lt_of_le (h4 q hq).2.2.2 a2.size⟩, Ns.frame h5 a2 fun hd q hq e => ?_, fun hd q hq => (h6 hd q hq).imp id fun k => ⟨fun x => x.elim k.1 fun x => ?_, k.2⟩⟩, hb.trans (a2.below lo hb.size)⟩, fun q hq => a2.block q (h4 q hq).2.2.2 (h4 q hq).2.1⟩
  · rcases hq with hq | hq
    · exact h3 q hq k
    · have := (h2.fp q k).2; omega
  · rcases k with k | k
    · exact (h4 q hq).2.1 k
    · have := (h4 q hq).2.2.2; omega
  · rcases h6 hd q hq with k | k
    · have := lo q e; omega
    · exact k.1 e
  · have := Ns.own_lt h5 hd q hq; omega
theorem Duo.turn2 {F1 M2 F2 M' X : Nat → Prop} {T' : OS} (h1 : LogAt w w0.heap.size b1 S F1) (h2 : LogD w w0.heap.size b2 T M2 F2) (h3 : ∀ q, F1 q → ¬ F2 q) (h4 : ∀ q, H q → w0.heap.size ≤ q ∧ ¬ F1 q ∧ ¬ F2 q ∧ q < w.heap.size) (h5 : Ns w u K)
    (h6 : K ≠ [] → ∀ q, u.ownBlock = some q → q < w0.heap.size ∨ (¬ F1 q ∧ ¬ M2 q ∧ ¬ H q)) (hb : Below w0.heap.size w0 w) (hx : ∀ q, X q → ¬ F1 q ∧ ¬ H q) (a0 : ∀ q, M' q → grow M2 w w' q) (a1 : LogD w' w0.heap.size b2 T' M' (fun q => grow F2 w w' q ∨ X q)) (a2 : FrF M2 w w') :
    Duo H w0 w' b1 S b2 T' u K ∧ ∀ q, H q → w'.heap[q]? = w.heap[q]? := by
  have lo : ∀ q, M2 q → w0.heap.size ≤ q := fun q hq => (h2.fp q (h2.mf q hq)).1
  refine ⟨⟨⟨F1, M', _, h1.off a2 (fun q a b => h3 q a (h2.mf q b)) lo, a1, fun q hq k => ?_, fun q hq => ⟨(h4 q hq).1, (h4 q hq).2.1, fun k => ?_, Nat.lt_of_lt_of_le (h4 q hq).2.2.2 a2.size⟩, Ns.frame h5 a2 fun hd q hq e => ?_, fun hd q hq => (h6 hd q hq).imp id fun k => ⟨k.1, fun x => (a0 q x).elim k.2.1 fun x => ?_, k.2.2⟩⟩, hb.trans (a2.below lo hb.size)⟩, fun q hq => a2.block q (h4 q hq).2.2.2 (fun e => (h4 q hq).2.2.1 (h2.mf q e))⟩
  · rcases k with (k | k) | k
    · exact h3 q hq k
    · have := (h1.fp q hq).2; omega
    · exact (hx q k).1 hq
  · rcases k with (k | k) | k
    · exact (h4 q hq).2.2.1 k
    · have := (h4 q hq).2.2.2; omega
    · exact (hx q k).2 hq
  · rcases h6 hd q hq with k | k
    · have := lo q e; omega
    · exact k.2.1 e
  · have := Ns.own_lt h5 hd q hq; omega
theorem Duo.Add (h : Duo H w0 w b1 S b2 T u K) (x : Rd) (hu : x.dv = u) (hK : x.r.d = K) (hf : x.r.fits) (hsz : x.r.s.size ≤ 100000) (hdl : x.r.d.length ≤ 1000000) :
    Calls Try.prog 20 #[.pointer (some ⟨b1, 0, none⟩), recV x.r x.dv] w (DuoDone H w0 w b1 (addS S x.r) b2 T u K (.int .i64 (addE S x.r))) := by
  obtain ⟨⟨F1, M2, F2, h1, h2, h3, h4, h5, h6⟩, hb⟩ := h
  subst hu hK
  exact (add_is h1 x h5 hf hsz hdl).mono fun e w' hd => ⟨hd.1, Duo.turn1 h1 h2 h3 h4 h5 h6 hb hd.2.1 hd.2.2⟩
theorem Duo.DAdd (h : Duo H w0 w b1 S b2 T u K) (x : Rd) (hu : x.dv = u) (hK : x.r.d = K) (hf : x.r.fits) :
    Calls Try.prog 21 #[.pointer (some ⟨b2, 0, none⟩), recV x.r x.dv] w (DuoDone H w0 w b1 S b2 (addS T x.r) u K (.int .i64 (addE T x.r))) := by
  obtain ⟨⟨F1, M2, F2, h1, h2, h3, h4, h5, h6⟩, hb⟩ := h
  subst hu hK
  refine (dadd_is h2 x h5 hf (fun hd q hq => (h6 hd q hq).imp id fun k => k.2.1)).mono fun e w' hd => ⟨hd.1, Duo.turn2 (X := fun q => x.r.d ≠ [] ∧ x.dv.ownBlock = some q ∧ w0.heap.size ≤ q) h1 h2 h3 h4 h5 h6 hb (fun q hq => ?_) (fun q e => e) hd.2.1 hd.2.2⟩
  rcases h6 hq.1 q hq.2.1 with k | k
  · have := hq.2.2; omega
  · exact ⟨k.1, k.2.2⟩
theorem Duo.Trim (h : Duo H w0 w b1 S b2 T u K) (vv : Value) (V : List Int) (hV : Ns w vv V) :
    Calls Try.prog 12 #[.pointer (some ⟨b1, 0, none⟩), vv] w (DuoDone H w0 w b1 (trimS S V) b2 T u K (.int .i64 ((trimN V S.L : Nat) : Int))) := by
  obtain ⟨⟨F1, M2, F2, h1, h2, h3, h4, h5, h6⟩, hb⟩ := h
  refine (trim_is h1 vv V hV).mono fun e w' hd => ⟨hd.1, Duo.turn1 h1 h2 h3 h4 h5 h6 hb (hd.2.1.mono (fun q hq => Or.inl hq) fun q hq => ?_) hd.2.2⟩
  rcases hq with hq | hq
  · have := h1.fp q hq; have := hd.2.2.size; exact ⟨by omega, by omega⟩
  · have := hb.size; exact ⟨by omega, hq.2⟩
theorem Duo.DTrim (h : Duo H w0 w b1 S b2 T u K) (vv : Value) (V : List Int) (hV : Ns w vv V) (hq : V ≠ [] → ∀ q, vv.ownBlock = some q → q < w0.heap.size) :
    Calls Try.prog 13 #[.pointer (some ⟨b2, 0, none⟩), vv] w (DuoDone H w0 w b1 S b2 (trimS T V) u K (.int .i64 ((trimN V T.L : Nat) : Int))) := by
  obtain ⟨⟨F1, M2, F2, h1, h2, h3, h4, h5, h6⟩, hb⟩ := h
  exact (dtrim_is h2 vv V hV (fun hd q e m => by have := hq hd q e; have := (h2.fp q (h2.mf q m)).1; omega)).mono fun e w' hd => ⟨hd.1, Duo.turn2 (X := fun _ => False) h1 h2 h3 h4 h5 h6 hb (fun q hq => hq.elim) (fun q e => Or.inl e)
    ⟨hd.2.1.at_.imp fun bv ⟨v, zs, k1, k2, k3, k4⟩ => ⟨v, zs, k1, k2, fun q hq => ⟨Or.inl (k3 q hq).1, (k3 q hq).2⟩, fun x hx hd q hq hB => ⟨Or.inl (k4 x hx hd q hq hB).1, (k4 x hx hd q hq hB).2⟩⟩, fun q hq => Or.inl (hd.2.1.mf q hq), fun q hq => hq.elim (hd.2.1.fp q) (fun x => x.elim), hd.2.1.good⟩ hd.2.2⟩
/-- What the document's Know leaves: its numbers are the record's from now on. -/
def DKnowDone (H : Nat → Prop) (w0 w : World) (b1 : Nat) (S : OS) (b2 : Nat) (T : OS) (e : Ending) (w' : World) : Prop := ∃ a c, e = .returned (.slice a T.know.length c) ∧ Duo H w0 w' b1 S b2 T (.slice a T.know.length c) T.know ∧ Ns w' (.slice a T.know.length c) T.know ∧ Below w.heap.size w w'
theorem Duo.DKnow (h : Duo H w0 w b1 S b2 T u K) : Calls Try.prog 18 #[.pointer (some ⟨b2, 0, none⟩)] w (DKnowDone H w0 w b1 S b2 T) := by
  obtain ⟨⟨F1, M2, F2, h1, h2, h3, h4, h5, h6⟩, hb⟩ := h
  obtain ⟨bv, v, zs, hp⟩ := h2.part
  refine (dknowO_is hp.at_ hp.good).mono fun e w' hd => ?_
  obtain ⟨vK, rfl, hk⟩ := hd
  obtain ⟨a, c, rfl⟩ := hk.ns.slice
  refine ⟨a, c, rfl, ⟨⟨F1, M2, F2, h1.later hk.bel, h2.later hk.bel, h3, fun q hq => ⟨(h4 q hq).1, (h4 q hq).2.1, (h4 q hq).2.2.1, Nat.lt_of_lt_of_le (h4 q hq).2.2.2 hk.bel.size⟩, hk.ns, fun hd q hq => Or.inr ?_⟩, bel_next hb hk.bel⟩, hk.ns, hk.bel⟩
  rcases hk.own q hq with e | e
  · have := hp.k1 q e
    exact ⟨fun x => h3 q x this.1, this.2, fun x => (h4 q x).2.2.1 this.1⟩
  · exact ⟨fun x => by have := (h1.fp q x).2; omega, fun x => by have := (h2.fp q (h2.mf q x)).2; omega, fun x => by have := (h4 q x).2.2.2; omega⟩
theorem Duo.DAfter (h : Duo H w0 w b1 S b2 T u K) (vv : Value) (V : List Int) (hV : Ns w vv V) (most : Int) : Calls Try.prog 15 #[.pointer (some ⟨b2, 0, none⟩), vv, .int .i64 most] w (DAftDone T V most w) := by
  obtain ⟨⟨F1, M2, F2, h1, h2, -⟩, hb⟩ := h; exact daft_is h2 vv V hV most
theorem Duo.DGet (h : Duo H w0 w b1 S b2 T u K) (s q : Int) : Calls Try.prog 23 #[.pointer (some ⟨b2, 0, none⟩), .int .i64 s, .int .i64 q] w (DGetDone T.L s q w) := by
  obtain ⟨⟨F1, M2, F2, h1, h2, -⟩, hb⟩ := h; exact dget_is h2 s q
theorem Duo.Get (h : Duo H w0 w b1 S b2 T u K) (s q : Int) : Calls Try.prog 22 #[.pointer (some ⟨b1, 0, none⟩), .int .i64 s, .int .i64 q] w (GetDone S.L s q w) := by
  obtain ⟨⟨F1, M2, F2, h1, h2, -⟩, hb⟩ := h; exact get_is h1 s q
theorem Duo.Len (h : Duo H w0 w b1 S b2 T u K) : Calls Try.prog 29 #[.pointer (some ⟨b1, 0, none⟩)] w fun e w' => e = .returned (.int .i64 (S.L.length : Int)) ∧ w = w' := by
  obtain ⟨⟨F1, M2, F2, h1, h2, -⟩, hb⟩ := h; exact len_is h1
/-- The document's fields, as they are read. -/
structure DocAt (w : World) (b2 : Nat) (T : OS) (ab : Option Addr) (cb : Nat) (a : Option Addr) (c : Nat) : Prop where
  c0 : w.cell? ⟨b2, 0, none⟩ = some (.int .i64 T.room)
  c1 : w.cell? ⟨b2, 1, none⟩ = some (.slice ab T.base.length cb)
  c2 : w.cell? ⟨b2, 2, none⟩ = some (.slice a T.L.length c)
  c3 : w.cell? ⟨b2, 3, none⟩ = some (.int .i64 T.clock)
  ns : Ns w (.slice ab T.base.length cb) T.base
  rd : RdL w a T.L
theorem Duo.doc (h : Duo H w0 w b1 S b2 T u K) : ∃ ab cb a c, ∀ W, Below w.heap.size w W → DocAt W b2 T ab cb a c := by
  obtain ⟨⟨F1, M2, F2, h1, h2, -⟩, hb⟩ := h
  obtain ⟨bv, v, zs, hp⟩ := h2.part
  obtain ⟨ab, cb, rfl⟩ := hp.at_.kn.slice
  obtain ⟨a, c, rfl⟩ := hp.at_.row.slice
  have hl := hp.at_.len
  refine ⟨ab, cb, a, c, fun W hW => ?_⟩
  have hO := hp.at_.later hW
  exact ⟨hO.c0, hO.c1, by rw [← hl]; exact hO.c2, hO.c3, hO.kn, RdL.ofO hO.row hO.rs hO.deps⟩
end
theorem Duo.made {w0 w w1 w2 : World} {b1 b2 : Nat} {S : OS} {M2 : Nat → Prop} (h0 : Below w0.heap.size w0 w) (h1 : LogAt w1 w0.heap.size b1 S (fun q => w.heap.size ≤ q ∧ q < w1.heap.size)) (hb1 : Below w.heap.size w w1) (h2 : LogD w2 w0.heap.size b2 S M2 (fun q => w1.heap.size ≤ q ∧ q < w2.heap.size)) (hb2 : Below w1.heap.size w1 w2) : Duo noH w0 w2 b1 S b2 S (.slice none 0 0) [] :=
  ⟨⟨_, _, _, h1.later hb2, h2, fun q a b => by omega, fun q hq => hq.elim, ns_nil _, fun e => absurd rfl e⟩, bel_next (bel_next h0 hb1) hb2⟩
end Go.Proofs.Ythbajlfkgbfkgaa.Og

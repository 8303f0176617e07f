/- What the laws share. -/
import Derived.Test.YthbajlfkgbfkgaaOgNil
import Derived.Test.YthbajlfkgbfkgaaOgOps
set_option maxRecDepth 20000
set_option linter.unusedSimpArgs false
set_option linter.unusedVariables false
namespace Go.Proofs.Ythbajlfkgbfkgaa.Og
open Go.RowKit Go.Proofs.Ythbajlfkgbfkgaa.Vi Go.Proofs.Ythbajlfkgbfkgaa.Mk

theorem chain_at {v : List Int} {l : List Rec} (hc : chain v l) {i : Nat} (h : i < l.length) : l[i].ok = true ∧ l[i].st.q = atL (knowL v (l.take i)) l[i].st.s + 1 ∧ covL (knowL v (l.take i)) l[i].d = true := by
  induction l generalizing v i with
  | nil => simp at h
  | cons r t ih =>
    cases i with
    | zero => exact ⟨hc.1, hc.2.1, hc.2.2.1⟩
    | succ i => exact ih hc.2.2.2 (by simpa using h)
theorem know_step (v : List Int) (l : List Rec) (i : Nat) (h : i < l.length) : knowL v (l.take (i + 1)) = withL (knowL v (l.take i)) l[i].st.s l[i].st.q := by
  rw [List.take_succ_eq_append_getElem h, knowL_append]; rfl
theorem Lg.good {w0 w : World} {b : Nat} {S : OS} (h : Lg w0 w b S) : Good S := by obtain ⟨F, h1, -⟩ := h; exact h1.good
theorem Lg.bel {w0 w : World} {b : Nat} {S : OS} (h : Lg w0 w b S) : Below w0.heap.size w0 w := by obtain ⟨F, -, h2⟩ := h; exact h2
theorem Lg.Trim {w0 w : World} {b : Nat} {S : OS} (h : Lg w0 w b S) (vv : Value) (V : List Int) (hV : Ns w vv V) :
    Calls Try.prog 12 #[.pointer (some ⟨b, 0, none⟩), vv] w fun e w' => e = .returned (.int .i64 ((trimN V S.L : Nat) : Int)) ∧ Lg w0 w' b (trimS S V) := by
  obtain ⟨F, h1, h2⟩ := h
  exact (trim_is h1 vv V hV).mono fun e w' hd => ⟨hd.1, F, hd.2.1, h2.trans (hd.2.2.below (fun q hq => (h1.fp q hq).1) h2.size)⟩
theorem Lg.Know {w0 w : World} {b : Nat} {S : OS} (h : Lg w0 w b S) : Calls Try.prog 26 #[.pointer (some ⟨b, 0, none⟩)] w (VNew S.know w) := by obtain ⟨F, h1, -⟩ := h; exact know_is h1
theorem Lg.Base {w0 w : World} {b : Nat} {S : OS} (h : Lg w0 w b S) : Calls Try.prog 27 #[.pointer (some ⟨b, 0, none⟩)] w (VNew S.base w) := by obtain ⟨F, h1, -⟩ := h; exact base_is h1
theorem Lg.All {w0 w : World} {b : Nat} {S : OS} (h : Lg w0 w b S) : Calls Try.prog 24 #[.pointer (some ⟨b, 0, none⟩)] w (AllDone S.L w) := by obtain ⟨F, h1, -⟩ := h; exact allL_is h1
theorem Lg.After {w0 w : World} {b : Nat} {S : OS} (h : Lg w0 w b S) (vv : Value) (V : List Int) (hV : Ns w vv V) (most : Int) : Calls Try.prog 14 #[.pointer (some ⟨b, 0, none⟩), vv, .int .i64 most] w (AftDone S V most w) := by obtain ⟨F, h1, -⟩ := h; exact after_is h1 vv V hV most
theorem Lg.Clock {w0 w : World} {b : Nat} {S : OS} (h : Lg w0 w b S) : Calls Try.prog 28 #[.pointer (some ⟨b, 0, none⟩)] w fun e w' => e = .returned (.int .i64 S.clock) ∧ w = w' := by obtain ⟨F, h1, -⟩ := h; exact clock_is h1
theorem Lg.Room {w0 w : World} {b : Nat} {S : OS} (h : Lg w0 w b S) : Calls Try.prog 30 #[.pointer (some ⟨b, 0, none⟩)] w fun e w' => e = .returned (.int .i64 (S.room - (S.L.length : Int))) ∧ Below w.heap.size w w' := by obtain ⟨F, h1, -⟩ := h; exact room_is h1
theorem Lg.New {w0 w : World} (hb : Below w0.heap.size w0 w) (room : Int) : Calls Try.prog 10 #[.int .i64 room, .slice none 0 0] w fun e w' => ∃ b, e = .returned (.pointer (some ⟨b, 0, none⟩)) ∧ Lg w0 w' b (newS room []) ∧ Below w.heap.size w w' ∧ w.heap.size ≤ b :=
  (new_is room (.slice none 0 0) [] w (ns_nil w)).mono fun e w' ⟨b, h1, h2, h3, h4⟩ => ⟨b, h1, ⟨_, h3 w0.heap.size hb.size, bel_next hb h4⟩, h4, h2⟩
/-- Add, with the record's parts. -/
theorem Lg.AddR {w0 w : World} {b : Nat} {S : OS} (h : Lg w0 w b S) (x : Rd) (hN : Ns w x.dv x.r.d) (hf : x.r.fits) (hsz : x.r.s.size ≤ 100000) (hdl : x.r.d.length ≤ 1000000) :
    Calls Try.prog 20 #[.pointer (some ⟨b, 0, none⟩), .agg #[.int .i64 x.r.k, .string x.r.s, .int .i64 x.r.t, .int .i64 x.r.v, .int .i64 x.r.tier, .int .i64 x.r.st.c, .int .i64 x.r.st.s, .int .i64 x.r.st.q, .slice x.a x.r.d.length x.c]] w fun e w' => e = .returned (.int .i64 (addE S x.r)) ∧ Lg w0 w' b (addS S x.r) := h.Add x hN hf hsz hdl
theorem know_len {S : OS} (h : Good S) : S.know.length ≤ 8 := by
  have e := h.know_plain
  rw [← e]; exact vec_size _
/-- What a call's round has: the call's cells in a box, and what can be read. -/
structure BoxG (w : World) (q : Nat) (x : GOp) : Prop where
  at_ : GOpO w q 0 x
theorem GOpO.new (w : World) (x : GOp) : GOpO (w.alloc (.cells #[.int .i64 x.k, .int .i64 x.m, .bool x.f, .int .i64 x.x.r.k, .string x.x.r.s, .int .i64 x.x.r.t, .int .i64 x.x.r.v, .int .i64 x.x.r.tier, .int .i64 x.x.r.st.c, .int .i64 x.x.r.st.s, .int .i64 x.x.r.st.q, .slice x.x.a x.x.r.d.length x.x.c, .slice x.a x.V.length x.c] GOP)) w.heap.size 0 x := by constructor <;> simp [go_sem]
theorem Rd.small_fits {x : Rd} (h : x.r.wide) : x.small.r.fits := h.small
theorem Rd.small_size (x : Rd) : x.small.r.s.size ≤ 60 := cutB_len _ _
theorem Rd.small_len (x : Rd) : x.small.r.d.length ≤ 12 := by show (x.r.d.take 12).length ≤ 12; rw [List.length_take]; omega
/-- The record that fits. -/
def fitR (r : Rec) (K : List Int) : Rec := { r with st := ⟨r.st.c, r.st.s, atL K r.st.s + 1⟩, d := K }
/-- Ns behind stores into a newer block. -/
theorem Ns.set {w : World} {v : Value} {l : List Int} (h : Ns w v l) (b o : Nat) (z : Value) (hb : ∀ q, v.ownBlock = some q → q ≠ b) : Ns (w.setCell ⟨b, o, none⟩ z) v l :=
  Ns.other h (by simp) fun q hq _ => World.heap_setCell_off w b o z q (hb q hq)
/-- small, with the record's parts. -/
theorem small_lit (k t v tier c st q : Int) (s s6 : ByteArray) (d d12 : List Int) (a : Option Addr) (cc : Nat) (W : World) (h : ArgNs W (.slice a d.length cc) d) (hs : s.size ≤ 9223372036854775807) (h6 : Hid (cutB s 60 = s6)) (h12 : Hid (d.take 12 = d12)) :
    Calls Try.prog 17 #[.agg #[.int .i64 k, .string s, .int .i64 t, .int .i64 v, .int .i64 tier, .int .i64 c, .int .i64 st, .int .i64 q, .slice a d.length cc]] W fun e w' =>
      e = .returned (.agg #[.int .i64 k, .string s6, .int .i64 t, .int .i64 v, .int .i64 tier, .int .i64 c, .int .i64 st, .int .i64 q, .slice a d12.length cc]) ∧ Ns w' (.slice a d12.length cc) d12 ∧ Below W.heap.size W w' := by
  have h6 := h6.out
  have h12 := h12.out
  subst h6 h12
  exact (small17 ⟨⟨k, s, t, v, tier, ⟨c, st, q⟩, d⟩, a, cc⟩ W h hs).mono fun e w' hd => hd
theorem few_lit (a : Option Addr) (cap : Nat) (l l12 : List Int) (w : World) (h : ArgNs w (.slice a l.length cap) l) (h12 : Hid (l.take 12 = l12)) : Calls Try.prog 9 #[.slice a l.length cap] w fun e w' => e = .returned (.slice a l12.length cap) ∧ Ns w (.slice a l12.length cap) l12 ∧ w = w' := by
  have h12 := h12.out
  subst h12
  exact few17 a cap l w h
theorem ArgNs.later {w w' : World} {v : Value} {l : List Int} (h : ArgNs w v l) (k : Below w.heap.size w w') : ArgNs w' v l := ⟨Ns.later h.ns k, h.cap⟩
abbrev boxG (ok om : Int) (of : Bool) (rk rt rv rtier rc rst rq : Int) (rs : ByteArray) (rd : List Int) (ra : Option Addr) (rcc : Nat) (oV : List Int) (oa : Option Addr) (oc : Nat) : Obj := .cells #[.int .i64 ok, .int .i64 om, .bool of, .int .i64 rk, .string rs, .int .i64 rt, .int .i64 rv, .int .i64 rtier, .int .i64 rc, .int .i64 rst, .int .i64 rq, .slice ra rd.length rcc, .slice oa oV.length oc] GOP
end Go.Proofs.Ythbajlfkgbfkgaa.Og

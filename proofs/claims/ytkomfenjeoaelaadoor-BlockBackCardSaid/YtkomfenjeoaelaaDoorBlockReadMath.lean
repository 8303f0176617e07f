/- What is read of a block's bytes, by the program and by the document. -/
import Derived.Test.YtkomfenjeoaelaaDoorBlockBuildNo
import Derived.Test.YtkomfenjeoaelaaDoorSampleG
set_option maxRecDepth 20000
set_option linter.unusedSimpArgs false
set_option linter.unusedVariables false
namespace Go.Proofs.YtkomfenjeoaelaaDoor
open Go.RowKit Go.Proofs.YtkomfenjeoaelaaDoor.Vi Go.Proofs.YtkomfenjeoaelaaDoor.Mk

/-- A point that is read behind p. -/
def ptB (p : Pt) (r : ByteArray) (b : Bool) : Pt × ByteArray × Bool :=
  let x := smallQ r b 1099511627776
  let y := numQ x.2.1 x.2.2
  let z := takeQ y.2.1 y.2.2
  (⟨p.s, IntKind.i64.wrap (p.t + x.1), IntKind.i64.wrap (p.v + zag y.1), z.1⟩, z.2.1, z.2.2)
theorem ptB_is {p : Pt} {r r1 r2 r3 : ByteArray} {b b1 b2 b3 : Bool} {t v : Int} {a : St} (h1 : smallQ r b 1099511627776 = (t, r1, b1)) (h2 : numQ r1 b1 = (v, r2, b2)) (h3 : takeQ r2 b2 = (a, r3, b3)) :
    ptB p r b = (⟨p.s, IntKind.i64.wrap (p.t + t), IntKind.i64.wrap (p.v + zag v), a⟩, r3, b3) := by
  unfold ptB; simp only [h1, h2, h3]
theorem ptB_parts {p q : Pt} {r r' : ByteArray} {b b' : Bool} (H : ptB p r b = (q, r', b')) : ∃ t r1 b1 v r2 b2 a, smallQ r b 1099511627776 = (t, r1, b1) ∧ numQ r1 b1 = (v, r2, b2) ∧ takeQ r2 b2 = (a, r', b') ∧ q = ⟨p.s, IntKind.i64.wrap (p.t + t), IntKind.i64.wrap (p.v + zag v), a⟩ := by
  obtain ⟨⟨t, r1, b1⟩, h1⟩ : ∃ x, smallQ r b 1099511627776 = x := ⟨_, rfl⟩
  obtain ⟨⟨v, r2, b2⟩, h2⟩ : ∃ x, numQ r1 b1 = x := ⟨_, rfl⟩
  obtain ⟨⟨a, r3, b3⟩, h3⟩ : ∃ x, takeQ r2 b2 = x := ⟨_, rfl⟩
  rw [ptB_is h1 h2 h3] at H
  simp only [Prod.mk.injEq] at H
  obtain ⟨rfl, rfl, rfl⟩ := H
  exact ⟨t, r1, b1, v, r2, b2, a, h1, h2, h3, rfl⟩
/-- A point of a series that was read. -/
structure PB12 (s : ByteArray) (p : Pt) : Prop where
  s : p.s = s
  v : p.vfit
  t : -9223372036854775808 ≤ p.t ∧ p.t ≤ 9223372036854775807
theorem PB12.start (s : ByteArray) : PB12 s ⟨s, 0, 0, ⟨0, 0, 0⟩⟩ := ⟨rfl, by unfold Pt.vfit; dsimp only; omega, by dsimp only; omega⟩
theorem ptB_inv {p q : Pt} {r r' : ByteArray} {b b' : Bool} (H : ptB p r b = (q, r', b')) (h : b = true → r = ⟨#[]⟩) : (b' = true → r' = ⟨#[]⟩) ∧ r'.size ≤ r.size ∧ PB12 p.s q ∧ (b' = false → r'.size < r.size ∧ b = false) := by
  obtain ⟨t, r1, b1, v, r2, b2, a, h1, h2, h3, rfl⟩ := ptB_parts H
  obtain ⟨i1, j1, k1⟩ := smallQ_inv h1 h
  obtain ⟨i2, k2, -, -⟩ := num_inv6 h2 fun e => (i1 e).1
  obtain ⟨i3, k3⟩ := takeQ_inv h3 i2
  refine ⟨i3, by omega, ⟨rfl, wrap_fit _, wrap_fit _⟩, fun e => ?_⟩
  subst e
  obtain ⟨rfl, -, -⟩ := take_good6 h3 i2
  obtain ⟨rfl, -⟩ := num_good6 h2
  obtain ⟨rfl, e1⟩ := smallQ_good h1
  have e2 := congrArg List.length e1
  have := enc_len_pos t.toNat
  have z1 : r.data.toList.length = r.size := by rw [Array.length_toList]; rfl
  have z2 : r1.data.toList.length = r1.size := by rw [Array.length_toList]; rfl
  rw [List.length_append, z1, z2] at e2
  exact ⟨by omega, rfl⟩

/-- Points that are read behind p: n of them. -/
def ptsF : Nat → Pt → ByteArray → Bool → List Pt × ByteArray × Bool
  | 0, _, r, b => ([], r, b)
  | n + 1, p, r, b => ((ptB p r b).1 :: (ptsF n (ptB p r b).1 (ptB p r b).2.1 (ptB p r b).2.2).1, (ptsF n (ptB p r b).1 (ptB p r b).2.1 (ptB p r b).2.2).2)
theorem ptsF_zero (p : Pt) (r : ByteArray) (b : Bool) : ptsF 0 p r b = ([], r, b) := rfl
theorem ptsF_step {n : Nat} {p q : Pt} {r r' : ByteArray} {b b' : Bool} (H : ptB p r b = (q, r', b')) : ptsF (n + 1) p r b = (q :: (ptsF n q r' b').1, (ptsF n q r' b').2) := by rw [ptsF, H]
theorem ptsF_inv : ∀ (n : Nat) (p : Pt) (r : ByteArray) (b : Bool), (b = true → r = ⟨#[]⟩) → (ptsF n p r b).1.length = n ∧ (∀ q ∈ (ptsF n p r b).1, PB12 p.s q) ∧ ((ptsF n p r b).2.2 = true → (ptsF n p r b).2.1 = ⟨#[]⟩) ∧ (ptsF n p r b).2.1.size ≤ r.size
  | 0, p, r, b, h => ⟨rfl, fun q hq => absurd hq (List.not_mem_nil), h, Nat.le_refl _⟩
  | n + 1, p, r, b, h => by
    obtain ⟨⟨q, r', b'⟩, H⟩ : ∃ x, ptB p r b = x := ⟨_, rfl⟩
    obtain ⟨i1, i2, i3, -⟩ := ptB_inv H h
    obtain ⟨j1, j2, j3, j4⟩ := ptsF_inv n q r' b' i1
    rw [ptsF_step H]
    refine ⟨by show (_ :: _).length = _; rw [List.length_cons, j1], fun x hx => ?_, j3, Nat.le_trans j4 i2⟩
    rcases List.mem_cons.1 hx with rfl | hx
    · exact i3
    · have := j2 x hx; rw [i3.s] at this; exact this
/-- The series that are read: n of them, with m points at most. -/
def serF : Nat → Int → ByteArray → Bool → List (List Pt) × ByteArray × Bool
  | 0, _, r, b => ([], r, b)
  | n + 1, m, r, b =>
    let x := textQ r b
    let k := smallQ x.2.1 x.2.2 m
    let y := ptsF k.1.toNat ⟨x.1, 0, 0, ⟨0, 0, 0⟩⟩ k.2.1 k.2.2
    let z := serF n (m - k.1) y.2.1 y.2.2
    (y.1 :: z.1, z.2.1, z.2.2)
theorem serF_zero (m : Int) (r : ByteArray) (b : Bool) : serF 0 m r b = ([], r, b) := rfl
theorem serF_step {n : Nat} {m k : Int} {r r1 r2 r3 s : ByteArray} {b b1 b2 b3 : Bool} {l : List Pt} (h1 : textQ r b = (s, r1, b1)) (h2 : smallQ r1 b1 m = (k, r2, b2)) (h3 : ptsF k.toNat ⟨s, 0, 0, ⟨0, 0, 0⟩⟩ r2 b2 = (l, r3, b3)) :
    serF (n + 1) m r b = (l :: (serF n (m - k) r3 b3).1, (serF n (m - k) r3 b3).2) := by
  rw [serF]; simp only [h1, h2, h3]
/-- A point that was read of r. -/
def PIn12 (n : Nat) (p : Pt) : Prop := p.s.size ≤ n ∧ p.vfit ∧ -9223372036854775808 ≤ p.t ∧ p.t ≤ 9223372036854775807
theorem serF_inv : ∀ (n : Nat) (m : Int) (r : ByteArray) (b : Bool), (b = true → r = ⟨#[]⟩) → 0 ≤ m → (serF n m r b).1.length = n ∧ (∀ q ∈ (serF n m r b).1.flatten, PIn12 r.size q) ∧ ((serF n m r b).1.flatten.length : Int) ≤ m
  | 0, m, r, b, h, hm => ⟨rfl, fun q hq => by simp [serF] at hq, by simpa [serF] using hm⟩
  | n + 1, m, r, b, h, hm => by
    obtain ⟨⟨s, r1, b1⟩, h1⟩ : ∃ x, textQ r b = x := ⟨_, rfl⟩
    obtain ⟨⟨k, r2, b2⟩, h2⟩ : ∃ x, smallQ r1 b1 m = x := ⟨_, rfl⟩
    obtain ⟨⟨l, r3, b3⟩, h3⟩ : ∃ x, ptsF k.toNat ⟨s, 0, 0, ⟨0, 0, 0⟩⟩ r2 b2 = x := ⟨_, rfl⟩
    obtain ⟨i1, j1, k1⟩ := text_inv6 h1 h
    obtain ⟨i2, j2, k2⟩ := smallQ_inv h2 i1
    have hk := smallQ_range h2 hm
    have q := ptsF_inv k.toNat ⟨s, 0, 0, ⟨0, 0, 0⟩⟩ r2 b2 fun e => (i2 e).1
    rw [h3] at q
    obtain ⟨q1, q2, q3, q4⟩ := q
    dsimp only at q1 q2 q3 q4
    obtain ⟨p1, p2, p3⟩ := serF_inv n (m - k) r3 b3 q3 (by omega)
    rw [serF_step h1 h2 h3]
    refine ⟨by show (_ :: _).length = _; rw [List.length_cons, p1], fun x hx => ?_, ?_⟩
    · rcases List.mem_append.1 (show x ∈ l ++ (serF n (m - k) r3 b3).1.flatten from hx) with hx | hx
      · have := q2 x hx
        exact ⟨by rw [this.s]; show s.size ≤ r.size; omega, this.v, this.t.1, this.t.2⟩
      · obtain ⟨z1, z2⟩ := p2 x hx
        exact ⟨by omega, z2⟩
    · show ((l ++ (serF n (m - k) r3 b3).1.flatten).length : Int) ≤ m
      rw [List.length_append]; omega
/-- What the program takes of a block's bytes. -/
def takenF (S : ByteArray) : List (List Pt) := (serF (smallQ S false 3000).1.toNat 3000 (smallQ S false 3000).2.1 (smallQ S false 3000).2.2).1
def takenL (S : ByteArray) : List Pt := (takenF S).flatten
theorem takenL_inv (S : ByteArray) : (takenF S).length ≤ 3000 ∧ (∀ q ∈ takenL S, PIn12 S.size q) ∧ (takenL S).length ≤ 3000 := by
  obtain ⟨⟨c, r1, b1⟩, h1⟩ : ∃ x, smallQ S false 3000 = x := ⟨_, rfl⟩
  obtain ⟨i2, j2, k2⟩ := smallQ_inv h1 (fun e => by cases e)
  have hk := smallQ_range h1 (by omega)
  obtain ⟨p1, p2, p3⟩ := serF_inv c.toNat 3000 r1 b1 (fun e => (i2 e).1) (by omega)
  unfold takenL takenF
  rw [h1]
  dsimp only
  exact ⟨by omega, fun q hq => ⟨Nat.le_trans (p2 q hq).1 k2, (p2 q hq).2⟩, by omega⟩

/-- The bytes of points behind q. -/
def putsF : List Pt → Pt → List UInt8
  | [], _ => []
  | p :: l, q => putA p q ++ putsF l p
def lastP : List Pt → Pt → Pt
  | [], q => q
  | p :: l, _ => lastP l p
theorem putsF_snoc : ∀ (l : List Pt) (p q : Pt), putsF (l ++ [p]) q = putsF l q ++ putA p (lastP l q)
  | [], p, q => by simp [putsF, lastP]
  | x :: l, p, q => by
    show putA x q ++ putsF (l ++ [p]) x = (putA x q ++ putsF l x) ++ putA p (lastP l x)
    rw [putsF_snoc l p x, List.append_assoc]
theorem lastP_snoc : ∀ (l : List Pt) (p q : Pt), lastP (l ++ [p]) q = p
  | [], p, q => rfl
  | x :: l, p, q => lastP_snoc l p x
theorem lastP_take (m : List Pt) : ∀ k, k ≤ m.length → lastP (m.take k) Pt.zero = priorP m k
  | 0, _ => by rw [List.take_zero]; rfl
  | k + 1, h => by rw [List.take_succ_eq_append_getElem (by omega), lastP_snoc, priorP_succ (show k < m.length by omega)]
theorem putsN_putsF (m : List Pt) : ∀ k, k ≤ m.length → putsN m k = putsF (m.take k) Pt.zero
  | 0, _ => by rw [List.take_zero]; rfl
  | k + 1, h => by
    have hk : k < m.length := by omega
    rw [putsN_step hk, putsN_putsF m k (by omega), List.take_succ_eq_append_getElem hk, putsF_snoc, lastP_take m k (by omega)]
theorem putsL_putsF (m : List Pt) : putsL m = putsF m Pt.zero := by
  unfold putsL; rw [putsN_putsF m _ (Nat.le_refl _), List.take_length]

/-- A point that may stand in a series' bytes. -/
def GP12 (s : ByteArray) (p : Pt) : Prop := p.s = s ∧ (0 ≤ p.t ∧ p.t ≤ 1099511627776) ∧ p.st.ok = true ∧ p.vfit
theorem ptB_enc {s : ByteArray} {x p q : Pt} (rest : List UInt8) (hx : GP12 s x) (hs : p.s = s) (ht : p.t = q.t) (hv : p.v = q.v) (h0 : 0 ≤ q.t) (hle : q.t ≤ x.t) : ptB p (tx (putA x q ++ rest)) false = (x, tx rest, false) := by
  obtain ⟨g1, g2, g3, g4⟩ := hx
  unfold Pt.vfit at g4
  unfold putA
  obtain ⟨z1, z2⟩ := zig_bounds _ (wrap_fit (x.v - q.v)).1 (wrap_fit (x.v - q.v)).2
  have h1 := smallQ_enc (x.t - q.t) 1099511627776 (enc (zig (IntKind.i64.wrap (x.v - q.v))).toNat ++ (x.st.bytes ++ rest)) (by omega) (by omega) (by omega)
  have h2 := num_enc6 (zig (IntKind.i64.wrap (x.v - q.v))).toNat (x.st.bytes ++ rest) (by omega)
  have h3 := take_enc6 x.st rest g3
  rw [List.append_assoc, List.append_assoc, ptB_is h1 h2 h3, Int.toNat_of_nonneg z1, zag_zig, hs, ht, hv]
  have e1 : IntKind.i64.wrap (q.t + (x.t - q.t)) = x.t := by rw [IntKind.wrap_i64]; omega
  have e2 : IntKind.i64.wrap (q.v + IntKind.i64.wrap (x.v - q.v)) = x.v := by rw [IntKind.wrap_i64, IntKind.wrap_i64]; omega
  rw [e1, e2, ← g1]
theorem ptsF_enc {s : ByteArray} (rest : List UInt8) : ∀ (m : List Pt) (p q : Pt), (∀ x ∈ m, GP12 s x) → srtB m = true → p.s = s → p.t = q.t → p.v = q.v → 0 ≤ q.t → (∀ x ∈ m, q.t ≤ x.t) → ptsF m.length p (tx (putsF m q ++ rest)) false = (m, tx rest, false)
  | [], p, q, _, _, _, _, _, _, _ => rfl
  | x :: m, p, q, hg, hs, e1, e2, e3, h0, hle => by
    have gx := hg x List.mem_cons_self
    have H := ptB_enc (putsF m x ++ rest) gx e1 e2 e3 h0 (hle x List.mem_cons_self)
    have ih := ptsF_enc rest m x x (fun y hy => hg y (List.mem_cons_of_mem _ hy)) (srtB_cons hs) gx.1 rfl rfl gx.2.1.1 (fun y hy => by
      have hb := srtB_all hs y hy
      rw [bef_s (gx.1.trans (hg y (List.mem_cons_of_mem _ hy)).1.symm)] at hb
      have := of_decide_eq_true hb
      omega)
    show ptsF (m.length + 1) p (tx ((putA x q ++ putsF m x) ++ rest)) false = _
    rw [List.append_assoc, ptsF_step H, ih]
/-- The bytes of series. -/
def sersA (l : List Pt) (N : List ByteArray) : List UInt8 := N.flatMap fun s => serA s (allR l s)
theorem bodyN_sers (l : List Pt) (N : List ByteArray) : ∀ k, k ≤ N.length → bodyN l N k = enc N.length ++ sersA l (N.take k)
  | 0, _ => by simp [bodyN, sersA]
  | k + 1, h => by
    have hk : k < N.length := by omega
    rw [bodyN_step hk, bodyN_sers l N k (by omega), List.take_succ_eq_append_getElem hk]
    unfold sersA
    rw [List.flatMap_append, List.append_assoc]
    simp
theorem bodyA_sers (l : List Pt) : bodyA l = enc (serL l).length ++ sersA l (serL l) := by
  unfold bodyA; rw [bodyN_sers _ _ _ (Nat.le_refl _), List.take_length]
/-- The number of points of series. -/
def cntN (l : List Pt) (N : List ByteArray) : Nat := (N.map fun s => (allR l s).length).sum
theorem allR_GP {l : List Pt} (hok : ∀ p ∈ l, p.st.ok = true ∧ p.vfit) (s : ByteArray) : ∀ x ∈ allR l s, GP12 s x := fun x hx => by
  obtain ⟨e1, e2, e3⟩ := allR_at l s hx
  have hm : x ∈ l := (List.mem_filter.1 hx).1
  exact ⟨e1, ⟨e2, e3⟩, (hok x hm).1, (hok x hm).2⟩
theorem zero_t : Pt.zero.t = 0 := rfl
theorem serF_enc {l : List Pt} (hs : srtB l = true) (hok : ∀ p ∈ l, p.st.ok = true ∧ p.vfit) (rest : List UInt8) : ∀ (N : List ByteArray) (m : Int), (∀ s ∈ N, s.size ≤ 1000) → (cntN l N : Int) ≤ m → m ≤ 1099511627776 → serF N.length m (tx (sersA l N ++ rest)) false = (N.map (allR l), tx rest, false)
  | [], m, _, _, _ => rfl
  | s :: N, m, hn, hc, hm => by
    have hc' : ((allR l s).length : Int) + (cntN l N : Int) ≤ m := by
      have : cntN l (s :: N) = (allR l s).length + cntN l N := by unfold cntN; rw [List.map_cons, List.sum_cons]
      omega
    have ih := serF_enc hs hok rest N (m - ((allR l s).length : Int)) (fun x hx => hn x (List.mem_cons_of_mem _ hx)) (by omega) (by omega)
    have h1 := text_enc6 s (hn s List.mem_cons_self) (enc (allR l s).length ++ (putsL (allR l s) ++ (sersA l N ++ rest)))
    have h2 := smallQ_enc ((allR l s).length : Int) m (putsL (allR l s) ++ (sersA l N ++ rest)) (by omega) (by omega) hm
    rw [Int.toNat_natCast] at h2
    have h3 := ptsF_enc (s := s) (sersA l N ++ rest) (allR l s) ⟨s, 0, 0, ⟨0, 0, 0⟩⟩ Pt.zero (allR_GP hok s) (rngL_srt hs s 0 1099511627777) rfl rfl rfl (by rw [zero_t]; omega) (fun x hx => by rw [zero_t]; exact (allR_at l s hx).2.1)
    rw [← putsL_putsF] at h3
    have h3' : ptsF (((allR l s).length : Int)).toNat ⟨s, 0, 0, ⟨0, 0, 0⟩⟩ (tx (putsL (allR l s) ++ (sersA l N ++ rest))) false = (allR l s, tx (sersA l N ++ rest), false) := by rw [Int.toNat_natCast]; exact h3
    have e : sersA l (s :: N) ++ rest = enc s.size ++ (s.data.toList ++ (enc (allR l s).length ++ (putsL (allR l s) ++ (sersA l N ++ rest)))) := by
      unfold sersA serA
      simp only [List.flatMap_cons, List.append_assoc]
    rw [e]
    show serF (N.length + 1) m _ false = _
    rw [serF_step h1 h2 h3', ih, List.map_cons]
/-- The series' points one behind the other are all points. -/
theorem serN_last (l : List Pt) : ∀ k (h : k < l.length), ∃ N, serN l (k + 1) = N ++ [(l[k]).s]
  | 0, h => ⟨_, serN_new h (Or.inl rfl)⟩
  | k + 1, h => by
    by_cases e : (l[k + 1]).s = (l[k + 1 - 1]).s
    · obtain ⟨N, hN⟩ := serN_last l k (by omega)
      exact ⟨N, by rw [serN_old h (by omega) e, hN, e]; rfl⟩
    · exact ⟨_, serN_new h (Or.inr e)⟩
theorem allR_snoc (l : List Pt) (k : Nat) (h : k < l.length) (s : ByteArray) : allR (l.take (k + 1)) s = allR (l.take k) s ++ (if inR s 0 1099511627777 l[k] = true then [l[k]] else []) := rngL_snoc l k h s 0 1099511627777
theorem serm_same (l : List Pt) (k : Nat) (h : k < l.length) : ∀ N : List ByteArray, (l[k]).s ∉ N → N.map (allR (l.take (k + 1))) = N.map (allR (l.take k)) := fun N hN => List.map_congr_left fun s hs => by
  rw [allR_snoc l k h s, if_neg, List.append_nil]
  intro g
  exact hN ((inR_iff.1 g).1 ▸ hs)
theorem inR_yes {l : List Pt} {k : Nat} (h : k < l.length) (ht : 0 ≤ (l[k]).t ∧ (l[k]).t ≤ 1099511627776) : inR (l[k]).s 0 1099511627777 l[k] = true := inR_iff.2 ⟨rfl, ht.1, by omega⟩
theorem serm_take {l : List Pt} (hs : srtB l = true) (ht : ∀ p ∈ l, 0 ≤ p.t ∧ p.t ≤ 1099511627776) : ∀ k, k ≤ l.length → ((serN l k).map (allR (l.take k))).flatten = l.take k
  | 0, _ => by rw [List.take_zero]; rfl
  | k + 1, h => by
    have hk : k < l.length := by omega
    have ih := serm_take hs ht k (by omega)
    have hd := serN_nodup hs (k + 1) h
    have hy := inR_yes hk (ht _ (List.getElem_mem hk))
    by_cases hnew : k = 0 ∨ (l[k]).s ≠ (l[k - 1]).s
    · rw [serN_new hk hnew] at hd ⊢
      have hni : (l[k]).s ∉ serN l k := fun g => by
        have := (List.nodup_append.1 hd).2.2 _ g _ (List.mem_singleton.2 rfl)
        exact this rfl
      have he : allR (l.take k) (l[k]).s = [] := by
        rw [List.eq_nil_iff_forall_not_mem]
        intro x hx
        obtain ⟨e1, -⟩ := allR_at _ _ hx
        have hm : x ∈ l.take k := (List.mem_filter.1 hx).1
        obtain ⟨j, hj, rfl⟩ := List.getElem_of_mem hm
        rw [List.length_take] at hj
        rw [List.getElem_take] at e1
        exact hni (e1 ▸ serN_has l k (by omega) j (by omega) (by omega))
      rw [List.map_append, List.flatten_append, serm_same l k hk _ hni, ih, List.map_cons, List.map_nil, List.flatten_cons, List.flatten_nil, List.append_nil, allR_snoc l k hk, if_pos hy, he, List.nil_append, List.take_succ_eq_append_getElem hk]
    · have h0 : k ≠ 0 := fun e => hnew (Or.inl e)
      have he : (l[k]).s = (l[k - 1]).s := Classical.byContradiction fun e => hnew (Or.inr e)
      obtain ⟨N, hN⟩ := serN_last l (k - 1) (by omega)
      rw [show k - 1 + 1 = k by omega, ← he] at hN
      rw [serN_old hk h0 he] at hd ⊢
      rw [hN] at hd ih ⊢
      have hni : (l[k]).s ∉ N := fun g => (List.nodup_append.1 hd).2.2 _ g _ (List.mem_singleton.2 rfl) rfl
      rw [List.map_append, List.flatten_append, List.map_cons, List.map_nil, List.flatten_cons, List.flatten_nil, List.append_nil] at ih ⊢
      rw [serm_same l k hk _ hni, allR_snoc l k hk, if_pos hy, ← List.append_assoc, ih, List.take_succ_eq_append_getElem hk]
theorem serm_all {l : List Pt} (hs : srtB l = true) (ht : ∀ p ∈ l, 0 ≤ p.t ∧ p.t ≤ 1099511627776) : ((serL l).map (allR l)).flatten = l := by
  have := serm_take hs ht l.length (Nat.le_refl _)
  rw [List.take_length] at this
  exact this

/-- What a list that Build takes is. -/
theorem bldE_zero {l : List Pt} (h : bldE l = 0) : srtB l = true ∧ (∀ p ∈ l, p.ok = true) ∧ l.length ≤ 3000 := by
  unfold bldE at h
  split at h
  · rename_i hs
    split at h
    · rename_i hp
      split at h
      · omega
      · exact ⟨hs, hp, by omega⟩
    · omega
  · omega
theorem ok_name {p : Pt} (h : p.ok = true) : p.s.size ≤ 40 := by
  obtain ⟨h1, -, -⟩ := Pt.ok_parts h
  exact (name_len h1).2
theorem serL_len (l : List Pt) : (serL l).length ≤ l.length := serN_len l _
theorem cntN_le {l : List Pt} (hs : srtB l = true) : cntN l (serL l) ≤ l.length := by
  have := sum_ser hs
  unfold cntN
  rw [this]
  unfold okN
  exact List.length_filter_le _ _
theorem taken_back {l : List Pt} (h : bldE l = 0) (hv : ∀ p ∈ l, p.vfit) : takenL (tx (bodyA l)) = l := by
  obtain ⟨h1, h2, h3⟩ := bldE_zero h
  have hsl := serL_len l
  have hc := cntN_le h1
  have e1 := smallQ_enc ((serL l).length : Int) 3000 (sersA l (serL l)) (by omega) (by omega) (by omega)
  rw [Int.toNat_natCast, ← bodyA_sers] at e1
  have e2 := serF_enc h1 (fun p hp => ⟨(Pt.ok_parts (h2 p hp)).2.2, hv p hp⟩) [] (serL l) 3000 (fun s hs => by
    obtain ⟨p, hp, rfl⟩ := serN_mem l _ s hs
    have := ok_name (h2 p hp); omega) (by omega) (by omega)
  rw [List.append_nil] at e2
  unfold takenL takenF
  rw [e1]
  dsimp only
  rw [Int.toNat_natCast, e2]
  exact serm_all h1 fun p hp => (Pt.ok_parts (h2 p hp)).2.1

/-- The document's point: one that is too late spoils the reader. -/
def ptD (p : Pt) (r : ByteArray) (b : Bool) : Pt × ByteArray × Bool :=
  ((ptB p r b).1, if decide (1099511627776 < (ptB p r b).1.t) = true then ⟨#[]⟩ else (ptB p r b).2.1, (ptB p r b).2.2 || decide (1099511627776 < (ptB p r b).1.t))
theorem ptD_late {p q : Pt} {r r' : ByteArray} {b b' : Bool} (H : ptB p r b = (q, r', b')) (h : 1099511627776 < q.t) : ptD p r b = (q, ⟨#[]⟩, true) := by
  unfold ptD; rw [H]; simp [h]
theorem ptD_fit {p q : Pt} {r r' : ByteArray} {b b' : Bool} (H : ptB p r b = (q, r', b')) (h : ¬ 1099511627776 < q.t) : ptD p r b = (q, r', b') := by
  unfold ptD; rw [H]; simp [h]
def dptsF : Nat → Pt → ByteArray → Bool → List Pt × ByteArray × Bool
  | 0, _, r, b => ([], r, b)
  | n + 1, p, r, b => if b = true then ([], r, b) else ((ptD p r b).1 :: (dptsF n (ptD p r b).1 (ptD p r b).2.1 (ptD p r b).2.2).1, (dptsF n (ptD p r b).1 (ptD p r b).2.1 (ptD p r b).2.2).2)
theorem dptsF_bad (n : Nat) (p : Pt) (r : ByteArray) : dptsF n p r true = ([], r, true) := by cases n <;> rfl
theorem dptsF_zero (p : Pt) (r : ByteArray) (b : Bool) : dptsF 0 p r b = ([], r, b) := rfl
theorem dptsF_step {n : Nat} {p q : Pt} {r r' : ByteArray} {b' : Bool} (H : ptD p r false = (q, r', b')) : dptsF (n + 1) p r false = (q :: (dptsF n q r' b').1, (dptsF n q r' b').2) := by rw [dptsF, H]; rfl
/-- What may be read still: a byte at least for each point, and one behind the reader's end. -/
def pot (r : ByteArray) (b : Bool) : Nat := r.size + if b = true then 0 else 1
theorem ptD_inv {p q : Pt} {r r' : ByteArray} {b' : Bool} (H : ptD p r false = (q, r', b')) : (b' = true → r' = ⟨#[]⟩) ∧ r'.size ≤ r.size ∧ PB12 p.s q ∧ pot r' b' + 1 ≤ pot r false := by
  obtain ⟨⟨x, y, z⟩, H1⟩ : ∃ x, ptB p r false = x := ⟨_, rfl⟩
  obtain ⟨i1, i2, i3, i4⟩ := ptB_inv H1 (fun e => by cases e)
  by_cases hx : 1099511627776 < x.t
  · rw [ptD_late H1 hx] at H
    simp only [Prod.mk.injEq] at H
    obtain ⟨rfl, rfl, rfl⟩ := H
    have e0 : ByteArray.size ⟨#[]⟩ = 0 := rfl
    refine ⟨fun _ => rfl, by rw [e0]; omega, i3, ?_⟩
    unfold pot; rw [e0, if_pos rfl, if_neg (by simp)]; omega
  · rw [ptD_fit H1 hx] at H
    simp only [Prod.mk.injEq] at H
    obtain ⟨rfl, rfl, rfl⟩ := H
    refine ⟨i1, i2, i3, ?_⟩
    unfold pot
    cases z with
    | true =>
      have e0 : ByteArray.size ⟨#[]⟩ = 0 := rfl
      rw [i1 rfl, e0, if_pos rfl, if_neg (by simp)]; omega
    | false => have := (i4 rfl).1; rw [if_neg (by simp)]; omega
theorem dptsF_inv : ∀ (n : Nat) (p : Pt) (r : ByteArray) (b : Bool), (b = true → r = ⟨#[]⟩) → (dptsF n p r b).1.length + pot (dptsF n p r b).2.1 (dptsF n p r b).2.2 ≤ pot r b ∧ (∀ q ∈ (dptsF n p r b).1, PB12 p.s q) ∧ ((dptsF n p r b).2.2 = true → (dptsF n p r b).2.1 = ⟨#[]⟩) ∧ (dptsF n p r b).2.1.size ≤ r.size
  | 0, p, r, b, h => ⟨by rw [dptsF_zero]; show 0 + pot r b ≤ _; omega, fun q hq => absurd hq (List.not_mem_nil), h, Nat.le_refl _⟩
  | n + 1, p, r, true, h => by
    rw [dptsF_bad]
    exact ⟨by show 0 + pot r true ≤ _; omega, fun q hq => absurd hq (List.not_mem_nil), h, Nat.le_refl _⟩
  | n + 1, p, r, false, h => by
    obtain ⟨⟨q, r', b'⟩, H⟩ : ∃ x, ptD p r false = x := ⟨_, rfl⟩
    obtain ⟨i1, i2, i3, i4⟩ := ptD_inv H
    obtain ⟨j1, j2, j3, j4⟩ := dptsF_inv n q r' b' i1
    rw [dptsF_step H]
    refine ⟨by show (_ :: _).length + _ ≤ _; rw [List.length_cons]; dsimp only; omega, fun x hx => ?_, j3, Nat.le_trans j4 i2⟩
    rcases List.mem_cons.1 hx with rfl | hx
    · exact i3
    · have := j2 x hx; rw [i3.s] at this; exact this
def dserF : Nat → ByteArray → Bool → List Pt × ByteArray × Bool
  | 0, r, b => ([], r, b)
  | n + 1, r, b => if b = true then ([], r, b) else
    let x := textQ r b
    let k := smallQ x.2.1 x.2.2 3000
    let y := dptsF k.1.toNat ⟨x.1, 0, 0, ⟨0, 0, 0⟩⟩ k.2.1 k.2.2
    let z := dserF n y.2.1 y.2.2
    (y.1 ++ z.1, z.2.1, z.2.2)
theorem dserF_bad (n : Nat) (r : ByteArray) : dserF n r true = ([], r, true) := by cases n <;> rfl
theorem dserF_zero (r : ByteArray) (b : Bool) : dserF 0 r b = ([], r, b) := rfl
theorem dserF_step {n : Nat} {k : Int} {r r1 r2 r3 s : ByteArray} {b1 b2 b3 : Bool} {l : List Pt} (h1 : textQ r false = (s, r1, b1)) (h2 : smallQ r1 b1 3000 = (k, r2, b2)) (h3 : dptsF k.toNat ⟨s, 0, 0, ⟨0, 0, 0⟩⟩ r2 b2 = (l, r3, b3)) :
    dserF (n + 1) r false = (l ++ (dserF n r3 b3).1, (dserF n r3 b3).2) := by
  rw [dserF]; simp only [h1, h2, h3]; rfl
theorem pot_le {r r' : ByteArray} {b b' : Bool} (hz : r'.size ≤ r.size) (h : b' = true → r' = ⟨#[]⟩) (hb : b = false) : pot r' b' ≤ pot r b := by
  unfold pot
  subst hb
  rw [if_neg (show ¬ false = true by simp)]
  cases b' with
  | true => rw [if_pos rfl]; omega
  | false => rw [if_neg (by simp)]; omega
theorem pot_next {r r' : ByteArray} {b b' : Bool} (hz : r'.size ≤ r.size) (h : b' = true → r' = ⟨#[]⟩) (hb : b' = false → b = false) : pot r' b' ≤ pot r b := by
  cases b with
  | false => exact pot_le hz h rfl
  | true =>
    cases b' with
    | true => unfold pot; rw [if_pos rfl]; omega
    | false => exact absurd (hb rfl) (by simp)
theorem dserF_inv : ∀ (n : Nat) (r : ByteArray) (b : Bool), (b = true → r = ⟨#[]⟩) → (dserF n r b).1.length + pot (dserF n r b).2.1 (dserF n r b).2.2 ≤ pot r b ∧ (∀ q ∈ (dserF n r b).1, PIn12 r.size q) ∧ ((dserF n r b).2.2 = true → (dserF n r b).2.1 = ⟨#[]⟩)
  | 0, r, b, h => ⟨by rw [dserF_zero]; show 0 + pot r b ≤ _; omega, fun q hq => absurd hq (List.not_mem_nil), h⟩
  | n + 1, r, true, h => by
    rw [dserF_bad]
    exact ⟨by show 0 + pot r true ≤ _; omega, fun q hq => absurd hq (List.not_mem_nil), h⟩
  | n + 1, r, false, h => by
    obtain ⟨⟨s, r1, b1⟩, h1⟩ : ∃ x, textQ r false = x := ⟨_, rfl⟩
    obtain ⟨⟨k, r2, b2⟩, h2⟩ : ∃ x, smallQ r1 b1 3000 = x := ⟨_, rfl⟩
    obtain ⟨⟨l, r3, b3⟩, h3⟩ : ∃ x, dptsF k.toNat ⟨s, 0, 0, ⟨0, 0, 0⟩⟩ r2 b2 = x := ⟨_, rfl⟩
    obtain ⟨i1, j1, k1⟩ := text_inv6 h1 h
    obtain ⟨i2, j2, k2⟩ := smallQ_inv h2 i1
    have q := dptsF_inv k.toNat ⟨s, 0, 0, ⟨0, 0, 0⟩⟩ r2 b2 fun e => (i2 e).1
    rw [h3] at q
    obtain ⟨q1, q2, q3, q4⟩ := q
    dsimp only at q1 q2 q3 q4
    obtain ⟨p1, p2, p3⟩ := dserF_inv n r3 b3 q3
    have u1 := pot_le j1 i1 (rfl : false = false)
    have u2 := pot_next k2 (fun e => (i2 e).1) j2
    rw [dserF_step h1 h2 h3]
    refine ⟨?_, fun x hx => ?_, p3⟩
    · show (l ++ (dserF n r3 b3).1).length + _ ≤ _
      rw [List.length_append]; dsimp only; omega
    · rcases List.mem_append.1 (show x ∈ l ++ (dserF n r3 b3).1 from hx) with hx | hx
      · have := q2 x hx
        exact ⟨by rw [this.s]; show s.size ≤ r.size; omega, this.v, this.t.1, this.t.2⟩
      · obtain ⟨z1, z2⟩ := p2 x hx
        exact ⟨by omega, z2⟩
theorem dptsF_enc {s : ByteArray} (rest : List UInt8) : ∀ (m : List Pt) (p q : Pt), (∀ x ∈ m, GP12 s x) → srtB m = true → p.s = s → p.t = q.t → p.v = q.v → 0 ≤ q.t → (∀ x ∈ m, q.t ≤ x.t) → dptsF m.length p (tx (putsF m q ++ rest)) false = (m, tx rest, false)
  | [], p, q, _, _, _, _, _, _, _ => rfl
  | x :: m, p, q, hg, hs, e1, e2, e3, h0, hle => by
    have gx := hg x List.mem_cons_self
    have H := ptD_fit (ptB_enc (putsF m x ++ rest) gx e1 e2 e3 h0 (hle x List.mem_cons_self)) (by have := gx.2.1.2; omega)
    have ih := dptsF_enc rest m x x (fun y hy => hg y (List.mem_cons_of_mem _ hy)) (srtB_cons hs) gx.1 rfl rfl gx.2.1.1 (fun y hy => by
      have hb := srtB_all hs y hy
      rw [bef_s (gx.1.trans (hg y (List.mem_cons_of_mem _ hy)).1.symm)] at hb
      have := of_decide_eq_true hb
      omega)
    show dptsF (m.length + 1) p (tx ((putA x q ++ putsF m x) ++ rest)) false = _
    rw [List.append_assoc, dptsF_step H, ih]
theorem dserF_enc {l : List Pt} (hs : srtB l = true) (hok : ∀ p ∈ l, p.st.ok = true ∧ p.vfit) (hl : l.length ≤ 3000) (rest : List UInt8) : ∀ (N : List ByteArray), (∀ s ∈ N, s.size ≤ 1000) → dserF N.length (tx (sersA l N ++ rest)) false = ((N.map (allR l)).flatten, tx rest, false)
  | [], _ => rfl
  | s :: N, hn => by
    have hlen : (allR l s).length ≤ 3000 := Nat.le_trans (rngL_len l s 0 1099511627777) hl
    have ih := dserF_enc hs hok hl rest N (fun x hx => hn x (List.mem_cons_of_mem _ hx))
    have h1 := text_enc6 s (hn s List.mem_cons_self) (enc (allR l s).length ++ (putsL (allR l s) ++ (sersA l N ++ rest)))
    have h2 := smallQ_enc ((allR l s).length : Int) 3000 (putsL (allR l s) ++ (sersA l N ++ rest)) (by omega) (by omega) (by omega)
    rw [Int.toNat_natCast] at h2
    have h3 := dptsF_enc (s := s) (sersA l N ++ rest) (allR l s) ⟨s, 0, 0, ⟨0, 0, 0⟩⟩ Pt.zero (allR_GP hok s) (rngL_srt hs s 0 1099511627777) rfl rfl rfl (by rw [zero_t]; omega) (fun x hx => by rw [zero_t]; exact (allR_at l s hx).2.1)
    rw [← putsL_putsF] at h3
    have h3' : dptsF (((allR l s).length : Int)).toNat ⟨s, 0, 0, ⟨0, 0, 0⟩⟩ (tx (putsL (allR l s) ++ (sersA l N ++ rest))) false = (allR l s, tx (sersA l N ++ rest), false) := by rw [Int.toNat_natCast]; exact h3
    have e : sersA l (s :: N) ++ rest = enc s.size ++ (s.data.toList ++ (enc (allR l s).length ++ (putsL (allR l s) ++ (sersA l N ++ rest)))) := by
      unfold sersA serA
      simp only [List.flatMap_cons, List.append_assoc]
    rw [e]
    show dserF (N.length + 1) _ false = _
    rw [dserF_step h1 h2 h3', ih, List.map_cons, List.flatten_cons]
/-- What the document reads of a block's bytes. -/
def docF (S : ByteArray) : List Pt × ByteArray × Bool := dserF (smallQ S false 3000).1.toNat (smallQ S false 3000).2.1 (smallQ S false 3000).2.2
theorem docF_inv (S : ByteArray) : (docF S).1.length ≤ S.size + 1 ∧ (∀ q ∈ (docF S).1, PIn12 S.size q) ∧ ((docF S).2.2 = true → (docF S).2.1 = ⟨#[]⟩) := by
  obtain ⟨⟨c, r1, b1⟩, h1⟩ : ∃ x, smallQ S false 3000 = x := ⟨_, rfl⟩
  obtain ⟨i2, j2, k2⟩ := smallQ_inv h1 (fun e => by cases e)
  obtain ⟨p1, p2, p3⟩ := dserF_inv c.toNat r1 b1 (fun e => (i2 e).1)
  have hp := pot_le k2 (fun e => (i2 e).1) (rfl : false = false)
  unfold docF
  rw [h1]
  dsimp only
  refine ⟨?_, fun q hq => ⟨Nat.le_trans (p2 q hq).1 k2, (p2 q hq).2⟩, p3⟩
  have : pot S false = S.size + 1 := by unfold pot; rw [if_neg (by simp)]
  omega
theorem doc_back {l : List Pt} (h : bldE l = 0) (hv : ∀ p ∈ l, p.vfit) : docF (tx (bodyA l)) = (l, ⟨#[]⟩, false) := by
  obtain ⟨h1, h2, h3⟩ := bldE_zero h
  have hsl := serL_len l
  have e1 := smallQ_enc ((serL l).length : Int) 3000 (sersA l (serL l)) (by omega) (by omega) (by omega)
  rw [Int.toNat_natCast, ← bodyA_sers] at e1
  have e2 := dserF_enc h1 (fun p hp => ⟨(Pt.ok_parts (h2 p hp)).2.2, hv p hp⟩) h3 [] (serL l) (fun s hs => by
    obtain ⟨p, hp, rfl⟩ := serN_mem l _ s hs
    have := ok_name (h2 p hp); omega)
  rw [List.append_nil] at e2
  unfold docF
  rw [e1]
  dsimp only
  rw [Int.toNat_natCast, e2, serm_all h1 fun p hp => (Pt.ok_parts (h2 p hp)).2.1]
  rfl
end Go.Proofs.YtkomfenjeoaelaaDoor

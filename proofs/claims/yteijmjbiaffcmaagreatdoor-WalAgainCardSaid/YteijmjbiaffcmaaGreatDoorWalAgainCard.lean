/- Joined: WalLive, WalAgainAid, WalAgainWalk, WalAgainCard. -/
import Derived.Test.YteijmjbiaffcmaaGreatDoorWalI
import Derived.Laws.MakeOwn
import Derived.Laws.OwnMore
import Derived.Deep.CutRange
import Derived.Deep.CutBlock
import Derived.Test.YteijmjbiaffcmaaGreatDoorCards
import Derived.Test.YteijmjbiaffcmaaGreatDoorTie
import Derived.ProofKit
import Derived.OpenShut
import Derived.Carry
import Derived.ChangeOld
import Derived.Deep.DeepHandedRow
import Derived.Lib.LaidTab
import Derived.Stop.LaidErr
import Derived.LaidSub
/- A log whose last segment can be appended to, in a folder of any segments: append, sync, checkpoint, crash, Open. -/
set_option maxRecDepth 20000
set_option linter.unusedSimpArgs false
set_option linter.unusedVariables false
namespace Go.Proofs.YteijmjbiaffcmaaGreatDoor
open Go.RowKit Go.Maps Go.Shelf Go.Proofs.YteijmjbiaffcmaaGreatDoor.Vi Go.Proofs.YteijmjbiaffcmaaGreatDoor.Crc Go.Proofs.YteijmjbiaffcmaaGreatDoor.Fr Go.Proofs.YteijmjbiaffcmaaGreatDoor.Fi

/-- What stands ahead of the last segment, from any first one on. -/
def Ahead (gs : List Sg) (g : Sg) (n : Nat) (f : Int) (st : ByteArray) (R : List ByteArray) (kp : Bool) (sg : ByteArray) : Prop := (gs = [] ∧ R = [] ∧ kp = true ∧ sg = st ∧ g.n = n) ∨ (Chain gs n f st R ∧ kp = false ∧ sg = ⟨#[]⟩)
structure Live (S : FS) (W : WS) (gs : List Sg) (g : Sg) (xs : List ByteArray) (f : Int) (st : ByteArray) (B T : Nat) : Prop where
  fold : Fold S 1000000 (gs ++ [g])
  has : ∃ n R L kp sg, Ahead gs g n f st R kp sg ∧ Ct g (f + (R.length : Int)) kp sg L [] ∧ R ++ L = xs
  w : ∃ fm, W = ⟨(g.n : Int), st, f, xs, fm, false⟩
  firm : ∀ x ∈ gs, x.k = x.s.size
  sum : ((gs ++ [g]).map (·.s.size)).sum ≤ B
  top : g.n ≤ T
  len : gs.length + 1 ≤ T
theorem Live.chain {S : FS} {W : WS} {gs : List Sg} {g : Sg} {xs : List ByteArray} {f : Int} {st : ByteArray} {B T : Nat} (h : Live S W gs g xs f st B T) : ∃ n, Chain (gs ++ [g]) n f st xs := by
  obtain ⟨n, R, L, kp, sg, ha, c, rfl⟩ := h.has
  rcases ha with ⟨rfl, rfl, rfl, rfl, rfl⟩ | ⟨hc, rfl, rfl⟩
  · refine ⟨g.n, ?_⟩
    have c' : Ct g f true sg L [] := by simpa using c
    simpa using chain_one c'
  · exact ⟨n, chain_snoc hc c⟩
theorem Live.fine {S : FS} {W : WS} {gs : List Sg} {g : Sg} {xs : List ByteArray} {f : Int} {st : ByteArray} {B T : Nat} (h : Live S W gs g xs f st B T) (hf : 0 ≤ f ∧ f ≤ 2199023255552) (hx : xs.length ≤ 100000000) (hT : T ≤ 60) : Fine W := by
  obtain ⟨fm, rfl⟩ := h.w
  have := h.top
  exact ⟨hf.1, hf.2, hx, by show 0 ≤ (g.n : Int); omega, by show (g.n : Int) ≤ _; omega⟩
theorem Live.chg {S : FS} {W : WS} {gs : List Sg} {g : Sg} {xs : List ByteArray} {f : Int} {st : ByteArray} {B T : Nat} (h : Live S W gs g xs f st B T) : (settleW S W).2.1.chg.length ≤ 900000 := by
  have e : (settleW S W).2.1.chg = [] := by
    unfold settleW
    split
    · show (syncS S (segW W)).2.chg = []
      rw [syncS_chg, h.fold.chg]
    · show (syncS S (segW W)).2.chg = []
      rw [syncS_chg, h.fold.chg]
  rw [e]
  exact Nat.zero_le _
theorem frs_le (M : Nat) : ∀ (l : List ByteArray), (∀ s ∈ l, s.size ≤ M) → M ≤ 60000 → (frs (byL l)).length ≤ (M + 14) * l.length
  | [], _, _ => Nat.le_refl _
  | s :: l, hl, hM => by
    have h1 := frs_le M l (fun t ht => hl t (List.mem_cons_of_mem _ ht)) hM
    have h2 := hl s List.mem_cons_self
    have e : byL (s :: l) = s.data.toList :: byL l := rfl
    rw [e, frs_cons, List.length_append, List.length_cons, fr_len]
    have h3 : s.data.toList.length = s.size := by simp
    have h4 := enc_len10 s.data.toList.length (by omega)
    have h5 : (M + 14) * (l.length + 1) = (M + 14) * l.length + (M + 14) := Nat.mul_succ _ _
    omega
/-- Texts appended. -/
theorem Live.app {S : FS} {W : WS} {gs : List Sg} {g : Sg} {xs : List ByteArray} {f : Int} {st : ByteArray} {B T : Nat} (h : Live S W gs g xs f st B T) {l : List ByteArray} (hl : ∀ s ∈ l, s.size ≤ 3000) (hn : l.length ≤ 6) (hB : B + 20000 ≤ 1000000) :
    ∃ S' W' g', appendW S W l = (0, S', W') ∧ Live S' W' gs g' (xs ++ l) f st (B + 20000) T ∧ g'.k = g.k := by
  have hg : g ∈ gs ++ [g] := List.mem_append.2 (Or.inr List.mem_cons_self)
  have hfl := frs_le 3000 l hl (by decide)
  have hfl2 : (3000 + 14) * l.length ≤ (3000 + 14) * 6 := Nat.mul_le_mul_left _ hn
  have hs := h.sum
  obtain ⟨fm, hW⟩ := h.w
  obtain ⟨S1, e1, hF⟩ := h.fold.append (W := W) hg (by rw [hW]) (by rw [hW]) (l := l) (fun s hs => Nat.le_trans (hl s hs) (by decide)) (by omega)
  rw [put_last h.fold.rise] at hF
  obtain ⟨n, R, L, kp, sg, ha, c, hx⟩ := h.has
  refine ⟨S1, _, _, e1, ⟨hF, ⟨n, R, L ++ l, kp, sg, ?_, c.more (fun s hs => Nat.le_trans (hl s hs) (by decide)) g.k, by rw [← hx, List.append_assoc]⟩, ⟨fm, ?_⟩, h.firm, ?_, h.top, h.len⟩, rfl⟩
  · rcases ha with ⟨a1, a2, a3, a4, a5⟩ | ⟨a1, a2, a3⟩
    · exact Or.inl ⟨a1, a2, a3, a4, a5⟩
    · exact Or.inr ⟨a1, a2, a3⟩
  · rw [hW]
  · rw [List.map_append, List.sum_append] at hs ⊢
    simp only [List.map_cons, List.map_nil, List.sum_cons, List.sum_nil] at hs ⊢
    rw [ByteArray.size_append, tx_size]
    omega
/-- Synced: in this segment, or another one is begun. -/
theorem Live.sync {S : FS} {W : WS} {gs : List Sg} {g : Sg} {xs : List ByteArray} {f : Int} {st : ByteArray} {B T : Nat} (h : Live S W gs g xs f st B T) (hf : 1 ≤ f ∧ f ≤ 1000000) (hx : xs.length ≤ 1000000) (hB : B + 100 ≤ 1000000) (hT : T ≤ 50) {q : Nat} (hq : ∀ y ∈ S.fil, y.q ≠ q) :
    ∃ S' W' gs' g', syncW S W q = (0, S', W') ∧ Live S' W' gs' g' xs f st (B + 100) (T + 1) ∧ g'.k = g'.s.size := by
  have hg : g ∈ gs ++ [g] := List.mem_append.2 (Or.inr List.mem_cons_self)
  have hs := h.sum
  have hlen := h.len
  have htop := h.top
  obtain ⟨fm, hW⟩ := h.w
  have hlw : lastW W = f + (xs.length : Int) - 1 := by rw [hW]; rfl
  obtain ⟨n, R, L, kp, sg, ha, c, hxs⟩ := h.has
  by_cases hbig : g.s.size ≤ 4000
  · obtain ⟨S2, e2, hF2⟩ := h.fold.syncW_in (W := W) hg (by rw [hW]) (by rw [hW]) hbig q
    rw [put_last h.fold.rise] at hF2
    refine ⟨S2, _, gs, ⟨g.n, g.q, g.s, g.s.size⟩, e2, ⟨hF2, ⟨n, R, L, kp, sg, ?_, ⟨c.s, c.ok, c.st, c.L, c.t⟩, hxs⟩, ⟨lastW W, ?_⟩, h.firm, ?_, by show g.n ≤ T + 1; omega, by omega⟩, rfl⟩
    · rcases ha with ⟨a1, a2, a3, a4, a5⟩ | ⟨a1, a2, a3⟩
      · exact Or.inl ⟨a1, a2, a3, a4, a5⟩
      · exact Or.inr ⟨a1, a2, a3⟩
    · rw [hW]
    · rw [List.map_append, List.sum_append] at hs ⊢
      simp only [List.map_cons, List.map_nil, List.sum_cons, List.sum_nil] at hs ⊢
      omega
  · have hb1 : 1 ≤ lastW W + 1 := by omega
    have hb2 : lastW W + 1 ≤ 1099511627776 := by omega
    have hsm := head_small hb1 hb2
    have hp := headB_pos (right_of hb1 hb2) (by decide)
    obtain ⟨hd, hhd⟩ : ∃ hd, headB (lastW W + 1) false ⟨#[]⟩ = hd := ⟨_, rfl⟩
    rw [hhd] at hsm hp
    have htp : topN (gs ++ [g]) = g.n := top_snoc gs g
    obtain ⟨S2, e2, hF2⟩ := h.fold.syncW_out (W := W) hg (by rw [hW]) (by rw [hW]) (by omega) (q := q) (by rw [htp]; omega) (by rw [List.length_append]; show gs.length + 1 < 64; omega) hq (fun x hx => by
      have := h.fold.fil x hx
      exact fun e => hq _ (filQ_mem this).1 e) hhd hp.1 (by omega)
    rw [put_last h.fold.rise, htp] at hF2
    rw [htp] at e2
    obtain ⟨n', hch⟩ := h.chain
    have hch2 : Chain (gs ++ [(⟨g.n, g.q, g.s, g.s.size⟩ : Sg)]) n' f st xs := by
      have := firm_chain hch
      rw [List.map_append] at this
      have e : (gs.map fun g : Sg => (⟨g.n, g.q, g.s, g.s.size⟩ : Sg)) = gs := (List.map_congr_left fun x hx => by
        have := h.firm x hx
        cases x
        simp_all).trans (List.map_id _)
      rw [e] at this
      exact this
    refine ⟨S2, _, gs ++ [⟨g.n, g.q, g.s, g.s.size⟩], ⟨g.n + 1, q, hd, hd.size⟩, e2, ⟨hF2, ⟨n', xs, [], false, ⟨#[]⟩, Or.inr ⟨hch2, rfl, rfl⟩, ?_, List.append_nil _⟩, ⟨lastW W, ?_⟩, fun x hx => ?_, ?_, by show g.n + 1 ≤ T + 1; omega, ?_⟩, rfl⟩
    · have e : f + (xs.length : Int) = lastW W + 1 := by omega
      rw [e, ← hhd]
      exact head_ct (right_of hb1 hb2) (by decide)
    · rw [hW]
    · rcases List.mem_append.1 hx with hx | hx
      · exact h.firm x hx
      · obtain rfl := List.mem_singleton.1 hx
        rfl
    · rw [List.map_append, List.map_append, List.sum_append, List.sum_append]
      rw [List.map_append, List.sum_append] at hs
      simp only [List.map_cons, List.map_nil, List.sum_cons, List.sum_nil] at hs ⊢
      omega
    · rw [List.length_append]
      show gs.length + 1 + 1 ≤ T + 1
      omega
/-- Opened. -/
theorem live_open {S : FS} {G : List Sg} {n : Nat} {xs : List ByteArray} {f : Int} {st : ByteArray} {B T : Nat} (h : Fold S 1000000 G) (c : Chain G n f st xs) (hs : (G.map (·.s.size)).sum ≤ B) (ht : topN G ≤ T) (hl : G.length ≤ T) (hf : 1 ≤ f ∧ f ≤ 1000000) (hx : xs.length ≤ 1000000) (hB : B + 100 ≤ 1000000) (hT : T ≤ 50) {q : Nat} (hq : ∀ f ∈ S.fil, f.q ≠ q) :
    ∃ S' W' gs g, openW S q = (0, S', W') ∧ Live S' W' gs g xs f st (B + 100) (T + 1) ∧ g.k = g.s.size := by
  have hb1 : 1 ≤ f + (xs.length : Int) := by omega
  have hb2 : f + (xs.length : Int) ≤ 1099511627776 := by omega
  have hsm := head_small hb1 hb2
  have hp := headB_pos (right_of hb1 hb2) (by decide)
  obtain ⟨hd, hhd⟩ : ∃ hd, headB (f + (xs.length : Int)) false ⟨#[]⟩ = hd := ⟨_, rfl⟩
  rw [hhd] at hsm hp
  obtain ⟨S', e, hF⟩ := h.open_ c (q := q) (by omega) (by omega) hq (fun g hg e => hq _ (filQ_mem (h.fil g hg)).1 e) hhd hp.1 (by omega)
  refine ⟨S', _, _, ⟨topN G + 1, q, hd, hd.size⟩, e, ⟨hF, ⟨n, xs, [], false, ⟨#[]⟩, Or.inr ⟨firm_chain c, rfl, rfl⟩, ?_, List.append_nil _⟩, ⟨_, rfl⟩, fun x hx => ?_, ?_, by show topN G + 1 ≤ T + 1; omega, ?_⟩, rfl⟩
  · rw [← hhd]
    exact head_ct (right_of hb1 hb2) (by decide)
  · obtain ⟨y, hy, rfl⟩ := List.mem_map.1 hx
    rfl
  · rw [List.map_append, List.sum_append, List.map_map]
    have e3 : (G.map ((fun x : Sg => x.s.size) ∘ fun g => (⟨g.n, g.q, g.s, g.s.size⟩ : Sg))).sum = (G.map (·.s.size)).sum := rfl
    rw [e3]
    simp only [List.map_cons, List.map_nil, List.sum_cons, List.sum_nil]
    omega
  · rw [List.length_map]; omega
/-- A checkpoint. -/
theorem Live.ckpt {S : FS} {W : WS} {gs : List Sg} {g : Sg} {xs : List ByteArray} {f : Int} {st : ByteArray} {B T : Nat} (h : Live S W gs g xs f st B T) (hf : 1 ≤ f ∧ f ≤ 1000000) (hx : xs.length ≤ 1000000) (hB : B + 70200 ≤ 1000000) (hT : T ≤ 50) {s2 : ByteArray} (hs2 : s2.size ≤ 60000) {q : Nat} (hq : ∀ y ∈ S.fil, y.q ≠ q) :
    ∃ S' W' g', ckptW S W s2 q = (0, S', W') ∧ Live S' W' [] g' [] (f + (xs.length : Int)) s2 70200 (T + 1) ∧ g'.k = g'.s.size := by
  have hg : g ∈ gs ++ [g] := List.mem_append.2 (Or.inr List.mem_cons_self)
  have hs := h.sum
  have hlen := h.len
  have htop := h.top
  obtain ⟨fm, hW⟩ := h.w
  have hlw : lastW W = f + (xs.length : Int) - 1 := by rw [hW]; rfl
  have hb1 : 1 ≤ lastW W + 1 := by omega
  have hb2 : lastW W + 1 ≤ 1099511627776 := by omega
  have hr := right_st hb1 hb2 hs2
  have hp := headB_pos hr hs2
  obtain ⟨hd, hhd⟩ : ∃ hd, headB (lastW W + 1) true s2 = hd := ⟨_, rfl⟩
  rw [hhd] at hp
  have htp : topN (gs ++ [g]) = g.n := top_snoc gs g
  obtain ⟨S', e, hF'⟩ := h.fold.ckpt (W := W) hg (by rw [hW]) (by rw [hW]) hs2 (q := q) (by rw [htp]; omega) (by rw [List.length_append]; show gs.length + 1 < 64; omega) hq hhd hp.1 (by omega)
  rw [htp] at e hF'
  have hct := head_ct (n := g.n + 1) (q := q) hr hs2
  rw [hhd] at hct
  have e1 : lastW W + 1 = f + (xs.length : Int) := by omega
  rw [e1] at e hct
  refine ⟨S', _, ⟨g.n + 1, q, hd, hd.size⟩, e, ⟨hF', ⟨g.n + 1, [], [], true, s2, Or.inl ⟨rfl, rfl, rfl, rfl, rfl⟩, ?_, rfl⟩, ⟨_, rfl⟩, fun x hx => absurd hx List.not_mem_nil, ?_, by show g.n + 1 ≤ T + 1; omega, by show 0 + 1 ≤ T + 1; omega⟩, rfl⟩
  · have e2 : f + (xs.length : Int) + (([] : List ByteArray).length : Int) = f + (xs.length : Int) := by show _ + (0 : Int) = _; omega
    rw [e2]; exact hct
  · show ([(⟨g.n + 1, q, hd, hd.size⟩ : Sg)].map (·.s.size)).sum ≤ 70200
    simp only [List.map_cons, List.map_nil, List.sum_cons, List.sum_nil]
    omega
/-- A crash of what is all firm. -/
theorem Live.crash {S : FS} {W : WS} {gs : List Sg} {g : Sg} {xs : List ByteArray} {f : Int} {st : ByteArray} {B T : Nat} (h : Live S W gs g xs f st B T) (hk : g.k = g.s.size) (l : List Int) : Fold (crashS S l) 1000000 (gs ++ [g]) := h.fold.crash_firm (fun x hx => by
  rcases List.mem_append.1 hx with hx | hx
  · exact h.firm x hx
  · obtain rfl := List.mem_singleton.1 hx
    exact hk) l
theorem sum_ge : ∀ {G : List Sg} {g : Sg}, g ∈ G → g.s.size ≤ (G.map (·.s.size)).sum
  | a :: G, g, h => by
    rw [List.map_cons, List.sum_cons]
    rcases List.mem_cons.1 h with rfl | h
    · omega
    · have := sum_ge h; omega
theorem fold_texts {S : FS} {r : Int} {G : List Sg} {B : Nat} (h : Fold S r G) (hs : (G.map (·.s.size)).sum ≤ B) (n : Nat) : (textS (syncL S (numsS S)).2 n).size ≤ B := h.texts (fun g hg => Nat.le_trans (sum_ge hg) hs) n
/-- A new log. -/
theorem live_new (q0 : Nat) : Live (oneS 1000000 q0 aH1 8) (aW 1 ⟨#[]⟩ 1 [] 0) [] ⟨1, q0, aH1, 8⟩ [] 1 ⟨#[]⟩ 100 1 := by
  have hct : Ct ⟨1, q0, aH1, 8⟩ (1 + (([] : List ByteArray).length : Int)) true ⟨#[]⟩ [] [] := by
    have := head_ct (n := 1) (q := q0) (f := 1) (kp := true) (st := ⟨#[]⟩) rfl (by decide)
    exact ⟨this.s, this.ok, this.st, this.L, this.t⟩
  obtain ⟨gs, g, R, L, kp, h, -⟩ := RollE.start q0
  refine ⟨⟨rfl, rfl, rfl, rfl, rfl, rfl, fun g hg => ?_, List.pairwise_singleton _ _, fun g hg => ?_⟩, ⟨1, [], [], true, ⟨#[]⟩, Or.inl ⟨rfl, rfl, rfl, rfl, rfl⟩, hct, rfl⟩, ⟨0, rfl⟩, fun x hx => absurd hx List.not_mem_nil, ?_, Nat.le_refl _, Nat.le_refl _⟩
  · obtain rfl := List.mem_singleton.1 hg
    exact ⟨Nat.le_refl _, by show 1 ≤ 60; decide⟩
  · obtain rfl := List.mem_singleton.1 hg
    simp [oneS, filQ]
  · show ([(⟨1, q0, aH1, 8⟩ : Sg)].map (·.s.size)).sum ≤ 100
    simp only [List.map_cons, List.map_nil, List.sum_cons, List.sum_nil]
    rw [aH1_size]
    decide
/-- A crash of one segment, that of a head that is firm and of records that may not be. -/
theorem Live.torn {S : FS} {W : WS} {g : Sg} {xs : List ByteArray} {f : Int} {st : ByteArray} {B T : Nat} (h : Live S W [] g xs f st B T) (hk : (headB f true st).size ≤ g.k) (l : List Int) : ∃ j G, j ≤ xs.length ∧ Fold (crashS S l) 1000000 G ∧ Chain G g.n f st (xs.take j) ∧ (G.map (·.s.size)).sum ≤ B ∧ topN G ≤ T ∧ G.length ≤ T := by
  obtain ⟨φ, hF, hc⟩ := h.fold.crash l
  have hc1 := hc g (List.mem_append.2 (Or.inr List.mem_cons_self))
  obtain ⟨n, R, L, kp, sg, ha, c, rfl⟩ := h.has
  have h0 : R = [] ∧ kp = true ∧ sg = st := by
    rcases ha with ⟨-, a2, a3, a4, -⟩ | ⟨hch, -, -⟩
    · exact ⟨a2, a3, a4⟩
    · obtain ⟨x, gs, L, t, R', e, -⟩ := hch.has
      cases e
  obtain ⟨rfl, rfl, rfl⟩ := h0
  have c' : Ct g f true sg L [] := by simpa using c
  obtain ⟨j, t, hj, c2⟩ := c'.cut hc1 hk
  have hsum := h.sum
  have htop := h.top
  have hlen := h.len
  obtain ⟨m, hm, hs, hkk⟩ := hc1.cut
  have hsz : (φ g).s.size ≤ g.s.size := by rw [hs, ByteArray.size_extract]; omega
  have e : ([] ++ [g] : List Sg).map φ = [φ g] := rfl
  rw [e] at hF
  refine ⟨j, [φ g], hj, hF, ?_, ?_, ?_, ?_⟩
  · have := chain_one c2
    rw [hc1.n] at this
    exact this
  · simp only [List.map_cons, List.map_nil, List.sum_cons, List.sum_nil, List.nil_append] at hsum ⊢
    omega
  · show (φ g).n ≤ T
    rw [hc1.n]; exact htop
  · show 1 ≤ T
    have : ([] : List Sg).length + 1 ≤ T := hlen
    simpa using this
theorem Live.rc {S : FS} {W : WS} {gs : List Sg} {g : Sg} {xs : List ByteArray} {f : Int} {st : ByteArray} {B T : Nat} (h : Live S W gs g xs f st B T) : W.rc = xs ∧ W.fi = f ∧ W.st = st := by
  obtain ⟨fm, rfl⟩ := h.w
  exact ⟨rfl, rfl, rfl⟩
theorem Live.last {S : FS} {W : WS} {gs : List Sg} {g : Sg} {xs : List ByteArray} {f : Int} {st : ByteArray} {B T : Nat} (h : Live S W gs g xs f st B T) : lastW W = f + (xs.length : Int) - 1 := by
  obtain ⟨fm, rfl⟩ := h.w
  rfl
end Go.Proofs.YteijmjbiaffcmaaGreatDoor

/- What the walk of WalAgain needs of worlds. -/
set_option maxRecDepth 20000
set_option linter.unusedSimpArgs false
set_option linter.unusedVariables false
namespace Go.Proofs.YteijmjbiaffcmaaGreatDoor
open Go.RowKit Go.Maps Go.Shelf Go.Proofs.YteijmjbiaffcmaaGreatDoor.Vi Go.Proofs.YteijmjbiaffcmaaGreatDoor.Crc Go.Proofs.YteijmjbiaffcmaaGreatDoor.Fr Go.Proofs.YteijmjbiaffcmaaGreatDoor.Fi

/-- A slice of texts that nobody else's writes reach. -/
def R0 (w : World) (u : Value) (xs : List ByteArray) : Prop := w.ownsRow 0 9 1 u xs.length (xs.map Value.string)
section
variable {w0 w w' : World} {b a y : Nat} {S S' : FS} {L L' : Lay} {W W' : WS} {v v' u : Value} {xs : List ByteArray} {e : Ending}
theorem R0.slice (h : R0 w u xs) : ∃ a c, u = .slice a xs.length c := ownsRow_slice h
theorem R0.ss (h : R0 w u xs) : Ss w u xs := SRow.ss (B := 0) h
theorem R0.heap (h : R0 w u xs) {k : Nat} (hk : u.ownBlock = some k) : ∃ cur, w.heap[k]? = some (.cells cur 9) := Fi.row_heap h hk
theorem R0.of (h : R0 w u xs) (hk : ∀ k, u.ownBlock = some k → w'.heap[k]? = w.heap[k]?) : R0 w' u xs := Fi.row_of h hk
theorem R0.later (h : R0 w u xs) (k : Below w.heap.size w w') : R0 w' u xs := h.of fun i hi => k.block i (by obtain ⟨c, e⟩ := h.heap hi; exact some_lt e)
theorem R0.over (hr : R0 w u xs) (h : DAt w0 w b S L) (k : Frm (mods b S L) w w') : R0 w' u xs := hr.of fun i hi => by
  obtain ⟨c, e⟩ := hr.heap hi
  exact k.block i (some_lt e) (h.dir.at_.not e (by decide) (by decide) (by decide) (by decide))
theorem R0.went (hr : R0 w u xs) (hu : Off u b S L a v) (k : WWent w w' b S S' L L' a W W' v v') : R0 w' u xs ∧ Off u b S' L' a v' :=
  ⟨hr.of fun i hi => by
    obtain ⟨c, e⟩ := hr.heap hi
    exact k.frm.block i (some_lt e) (hu i hi), fun i hi hm => by
    obtain ⟨c, e⟩ := hr.heap hi
    have hl := some_lt e
    rcases k.sub i hm with h | h
    · exact hu i hi h
    · omega⟩
theorem off_fresh (h : LAt w0 w b S L a W v) (hn : ∀ k, u.ownBlock = some k → w.heap.size ≤ k) : Off u b S L a v := fun k hk hm => by
  have h1 := hn k hk
  have h2 := h.log.at_.room hm
  omega
theorem off_open (hr : R0 w u xs) (h : DAt w0 w b S L) {r : Int × FS × WS} (o : OpenedL b S L r w e w' L' a v) : Off u b r.2.1 L' a v := fun k hk hm => by
  obtain ⟨c, e⟩ := hr.heap hk
  rcases o.sub k hm with h1 | h1
  · exact h.dir.at_.not e (by decide) (by decide) (by decide) (by decide) h1
  · have := some_lt e; omega
/-- Another log of the folder has been opened: this one's records stand. -/
theorem LAt.beside (h : LAt w0 w b S L a W v) {r : Int × FS × WS} (o : OpenedL b S L r w e w' L' y v') : WalAt w' b r.2.1 L' a W v :=
  ⟨o.at_.dir, (o.frm.block a (some_lt h.log.at_.cell) (h.log.at_.dir.at_.not h.log.at_.cell (by decide) (by decide) (by decide) (by decide))).trans h.log.at_.cell, h.log.at_.rcs.over h.d o.frm⟩
theorem is_on {pv : Value} {l : List Int} (h : Is w0 pv l) (d : DAt w0 w b S L) : ∀ W, Frm (mods b S L) w W → Is W pv l := fun W k => h.later (d.bel.trans (k.below d.bel.size d.lo))
theorem is_args {a3 : Option Addr} {n3 c3 : Nat} (h : ArgInts w a3 n3 c3) : ∃ l : List Int, l.length = n3 ∧ Is w (.slice a3 n3 c3) l := by
  rcases h with rfl | ⟨bb, off, l, rfl, hl, hlc, hm, hc, hw⟩
  · exact ⟨[], rfl, ⟨_, _, rfl, Or.inl rfl⟩, fun s h => (by simp at h), by simp⟩
  · subst hl
    refine ⟨l, rfl, ?_, hw, by unfold maxLen at hm; omega⟩
    by_cases h0 : l.length = 0
    · exact ⟨_, _, rfl, Or.inl (List.length_eq_zero_iff.1 h0)⟩
    · exact ⟨_, _, rfl, Or.inr ⟨bb, off, rfl, World.block_lt_of_cell? w _ (hc 0 (by omega)), hc⟩⟩
theorem is_take {a3 : Option Addr} {n3 c3 : Nat} {l : List Int} (h : Is w (.slice a3 n3 c3) l) {k : Nat} (hk : k ≤ n3) : Is w (.slice a3 k c3) (l.take k) := by
  obtain ⟨⟨x, cap, h1, h2⟩, h3, h4⟩ := h
  injection h1 with e1 e2 e3
  subst e1 e2 e3
  have hl : (l.take k).length = k := by rw [List.length_take]; omega
  refine ⟨⟨a3, c3, by rw [hl], ?_⟩, fun n hn => h3 n (List.mem_of_mem_take hn), by omega⟩
  rcases h2 with rfl | ⟨bb, off, e1, hb, hc⟩
  · exact Or.inl (by simp)
  · refine Or.inr ⟨bb, off, e1, hb, fun j hj => ?_⟩
    rw [hc j (by omega), List.getElem_take]
end
theorem prefB_take (l : List ByteArray) (j : Nat) (hj : j ≤ l.length) : prefB (l.take j) l 0 = true := by
  have h : (l.take j).length = j := by rw [List.length_take]; omega
  unfold prefB
  rw [h, decide_eq_true (show (0 : Int) ≤ (j : Int) by omega), decide_eq_true hj]
  simp
/-- A slice's beginning, and what is behind it. -/
theorem cuts {w : World} {u : Value} {xs ys : List ByteArray} {m n : Nat} (h : R0 w u (xs ++ ys)) (hm : xs.length = m) (hn : ys.length = n) : ∃ x c, u = .slice x (m + n) c ∧ m + n ≤ c ∧ Ss w (.slice x m c) xs ∧ (c = m → Ss w (.slice x (m + n - m) 0) ys) ∧ (c ≠ m → Ss w (.slice (Option.map (fun y => y.add m) x) (m + n - m) (c - m)) ys) := by
  subst hm hn
  obtain ⟨a, cap, e, h1, h2, h3⟩ := h.ss
  rw [List.length_append] at e h1
  refine ⟨a, cap, e, h1, ?_, fun hcm => ?_, fun hcm => ?_⟩
  · refine ⟨_, _, rfl, by omega, by omega, ?_⟩
    rcases h3 with h3 | ⟨b, off, rfl, hb, hc⟩
    · exact Or.inl (List.append_eq_nil_iff.1 h3).1
    · refine Or.inr ⟨b, off, rfl, hb, fun j hj => ?_⟩
      rw [hc j (by rw [List.length_append]; omega), List.getElem_append_left hj]
  · have e2 : xs.length + ys.length - xs.length = ys.length := by omega
    rw [e2]
    refine ⟨_, _, rfl, by omega, by omega, Or.inl (List.length_eq_zero_iff.1 (by omega))⟩
  · have e2 : xs.length + ys.length - xs.length = ys.length := by omega
    rw [e2]
    refine ⟨_, _, rfl, by omega, by omega, ?_⟩
    rcases h3 with h3 | ⟨b, off, rfl, hb, hc⟩
    · exact Or.inl (List.append_eq_nil_iff.1 h3).2
    · refine Or.inr ⟨b, off + xs.length, by simp [Addr.add], hb, fun j hj => ?_⟩
      have := hc (xs.length + j) (by rw [List.length_append]; omega)
      rw [← Nat.add_assoc] at this
      rw [this, List.getElem_append_right (by omega)]
      simp
/-- few of no texts. -/
theorem few0_is (a1 : Option Addr) (c1 : Nat) (w : World) : Calls Tryz.prog 29 #[.slice a1 0 c1] w fun e w' => ∃ u, e = .returned u ∧ Rec w' u (fewT []) ∧ (∀ k, u.ownBlock = some k → w.heap.size ≤ k) ∧ Below w.heap.size w w' := by
  go_enter Tryz.func29, Tryz.ntmps29
  go_wp2
  go_loopg [3, 4] 0 (fun g ov ii wr => g = 0 ∧ ii = .int .i64 0 ∧ ov = .slice none 0 0 ∧ wr = w)
  case atStart => exact ⟨rfl, rfl, rfl, rfl⟩
  case round =>
    obtain ⟨rfl, rfl, rfl, rfl⟩ := hrel
    go_wp2
    go_ret
    exact ⟨_, rfl, Rec.nil _, (fun k e => by cases e), Below.refl _ _⟩
theorem fewA_is {a1 : Option Addr} {n1 c1 : Nat} {w0 : World} (h : ArgStrs w0 a1 n1 c1) : ∃ l : List ByteArray, l.length ≤ 6 ∧ (∀ s ∈ l, s.size ≤ 3000) ∧ ∀ w, Below w0.heap.size w0 w → Calls Tryz.prog 29 #[.slice a1 n1 c1] w fun e w' => ∃ u, e = .returned u ∧ R0 w' u l ∧ (∀ k, u.ownBlock = some k → w.heap.size ≤ k) ∧ Below w.heap.size w w' := by
  rcases ss_of_args h with rfl | ⟨l, hl, hss, -⟩
  · refine ⟨[], by decide, fun s hs => absurd hs List.not_mem_nil, fun w _ => (few0_is a1 c1 w).mono ?_⟩
    rintro e w' ⟨u, h1, h2, h3, h4⟩
    exact ⟨u, h1, h2.1, h3, h4⟩
  · refine ⟨fewT l, ?_, fun s hs => ?_, fun w k => (few_is _ l w (hss.below k)).mono ?_⟩
    · unfold fewT; rw [List.length_map, List.length_take]; omega
    · unfold fewT at hs
      obtain ⟨x, -, rfl⟩ := List.mem_map.1 hs
      exact cutS_size _ _
    · rintro e w' ⟨u, h1, h2, h3, h4⟩
      exact ⟨u, h1, h2.1, h3, h4⟩
end Go.Proofs.YteijmjbiaffcmaaGreatDoor

/- The walk of WalAgain. -/
set_option maxRecDepth 20000
set_option linter.unusedSimpArgs false
set_option linter.unusedVariables false
namespace Go.Proofs.YteijmjbiaffcmaaGreatDoor
open Go.RowKit Go.Maps Go.Shelf Go.Proofs.YteijmjbiaffcmaaGreatDoor.Vi Go.Proofs.YteijmjbiaffcmaaGreatDoor.Crc Go.Proofs.YteijmjbiaffcmaaGreatDoor.Fr Go.Proofs.YteijmjbiaffcmaaGreatDoor.Fi

namespace walAgain
theorem text0 (r : Int) (n : Nat) : (textS (syncL (emptyS r) (numsS (emptyS r))).2 n).size ≤ 1000000 := by
  show (readS (emptyS r) _).1.size ≤ _
  exact read_size (fun f hf => by cases hf) _
set_option maxHeartbeats 16000000 in
theorem walk (a1 : Option Addr) (n1 c1 : Nat) (a2 : Option Addr) (n2 c2 : Nat) (a3 : Option Addr) (n3 c3 : Nat) (w : World) (h1 : ArgStrs w a1 n1 c1) (h2 : ArgStrs w a2 n2 c2) (h3 : ArgInts w a3 n3 c3) (GL : Glob w) : Calls Tryz.prog 8 #[.slice a1 n1 c1, .slice a2 n2 c2, .slice a3 n3 c3] w fun e w' => e = .returned (.bool true) ∧ Below w.heap.size w w' := by
  have G := Lib.hid GL
  have ka := awake_is w GL
  obtain ⟨A, hA6, hAS, hFA⟩ := fewA_is h1
  obtain ⟨Bs, hB6, hBS, hFB⟩ := fewA_is h2
  obtain ⟨P, hP, hPI⟩ := is_args h3
  obtain ⟨na, hna⟩ : ∃ na, A.length = na := ⟨_, rfl⟩
  obtain ⟨nb, hnb⟩ : ∃ nb, Bs.length = nb := ⟨_, rfl⟩
  have HNA := Lib.hid hna
  have HNB := Lib.hid hnb
  have HA6 := Lib.hid hA6
  have HB6 := Lib.hid hB6
  have HBL := Lib.hid (show nb ≤ 6 by omega)
  have HAS := Lib.hid hAS
  have HBS := Lib.hid hBS
  have HFA := Lib.hid hFA
  have HFB := Lib.hid hFB
  have hna6 : na ≤ 6 := by omega
  have hnb6 : nb ≤ 6 := by omega
  clear GL h1 h2 hA6 hB6 hAS hBS hFA hFB hna hnb
  by_cases hn8 : (n3 : Int) > 8
  · obtain ⟨pb, po, ha3, hpc⟩ : ∃ pb po, a3 = some ⟨pb, po, none⟩ ∧ 8 ≤ c3 := by
      rcases h3 with rfl | ⟨bb, off, l, rfl, hl, hlc, -⟩
      · exact absurd hn8 (by decide)
      · exact ⟨bb, off, rfl, by omega⟩
    have HPI := Lib.hid (is_take hPI (show 8 ≤ n3 by omega))
    have hpc2 : (8 : Int) ≤ (c3 : Int) := by omega
    subst ha3
    clear h3 hPI
    go_enter Tryz.func8, Tryz.ntmps8
    go_wp2_with (first
      | (go_at_call 9; (with_reducible refine ka.mono ?_); rintro _ w1 ⟨rfl, hB⟩; (have HB1 := Lib.hid (hB)); (have k1 := new_dir 1000000 w1); clear hB ka)
      | (go_at_call 17; (with_reducible refine k1.mono ?_); rintro e w2 ⟨b, L2, rfl, hD, hB, hlo⟩; (have HD2 := Lib.hid (show DAt w w2 b (emptyS 1000000) L2 from ⟨hD, fun k hk => Nat.le_trans HB1.out.size (hlo k hk), HB1.out.trans (hB.mono HB1.out.size)⟩)); (have k2 := lawOpen_is HD2.out.dir HD2.out.lo HD2.out.bel.size (HD2.out.gl G.out) (by show 0 ≤ 800000; decide) (text0 1000000)); clear hD hB hlo k1)
      | (go_at_call 18; (with_reducible refine k2.mono ?_); rintro e w3 ⟨q0, -, L3, a, v3, hO⟩; rw [one_open0 1000000 (by decide)] at hO; (obtain rfl : e = .returned (.pointer (some ⟨a, 0, none⟩)) := hO.ret); (have HL3 := Lib.hid (show LAt w w3 b (oneS 1000000 q0 aH1 8) L3 a (aW 1 ⟨#[]⟩ 1 [] 0) v3 from HD2.out.open_ G.out hO)); (have k3 := HFA.out w3 HL3.out.bel); clear hO k2)
      | (go_at_call 29; (with_reducible refine k3.mono ?_); rintro e w4 ⟨uA, rfl, hR, hn, hB⟩; (have HL4 := Lib.hid (HL3.out.below hB)); (have RA4 := Lib.hid (hR)); (have OA4 := Lib.hid (off_fresh HL3.out hn)); (obtain ⟨xa, ca, hua⟩ := hR.slice); rw [HNA.out] at hua; subst hua; (have k4 := HFB.out w4 HL4.out.bel); clear hR hn hB k3)
      | (go_at_call 29; (with_reducible refine k4.mono ?_); rintro e w5 ⟨uB, rfl, hR, hn, hB⟩; (have HL5 := Lib.hid (HL4.out.below hB)); (have RA5 := Lib.hid (RA4.out.later hB)); (have RB5 := Lib.hid (hR)); (have OB5 := Lib.hid (off_fresh HL4.out hn)); (obtain ⟨xb, cb, hub⟩ := hR.slice); rw [HNB.out] at hub; subst hub; (have k5 : Calls Tryz.prog 30 #[.pointer (some ⟨a, 0, none⟩), .slice xa na ca] w5 (WDone b (oneS 1000000 q0 aH1 8) L3 a (aW 1 ⟨#[]⟩ 1 [] 0) v3 (appendW (oneS 1000000 q0 aH1 8) (aW 1 ⟨#[]⟩ 1 [] 0) A) w5) := (by have h := append_is2 HL5.out.log ((live_new q0).fine (by decide) (by decide) (by decide)) (by decide) xa ca A (by have := HA6.out; omega) (fun s hs => Nat.le_trans (HAS.out s hs) (by decide)) (fun _ _ _ _ _ k => by have h1 := (RA5.out.went OA4.out k).1.ss; rw [HNA.out]; exact h1); rw [HNA.out] at h; exact h)); (obtain ⟨S6, W6, g6, e6, hv6, hk6⟩ := (live_new q0).app HAS.out HA6.out (by decide)); rw [e6] at k5; rw [List.nil_append] at hv6; (have HV6 := Lib.hid (hv6)); (have HK6 := Lib.hid (hk6)); clear hR hn hB k4 e6 hv6 hk6)
      | (go_at_call 30; (with_reducible refine k5.mono ?_); rintro e w6 ⟨L6, v6, rfl, hW⟩; (have HL6 := Lib.hid (show LAt w w6 b S6 L6 a W6 v6 from HL5.out.next hW)); (obtain ⟨ha, -⟩ := RA5.out.went OA4.out hW); (have RA6 := Lib.hid (ha)); (obtain ⟨hb, -⟩ := RB5.out.went OB5.out hW); (have RB6 := Lib.hid (hb)); (have k6 := crash_dir (.slice (some ⟨pb, po, none⟩) 8 c3) (P.take 8) HL6.out.d.dir.at_ HL6.out.d.dir.whole (by rw [HV6.out.fold.chg]; exact Nat.zero_le _) (is_on HPI.out HL6.out.d)); (obtain ⟨j, G7, hj, hF, hC, hS, hT, hLn⟩ := HV6.out.torn (by rw [HK6.out]; show aH1.size ≤ 8; exact Nat.le_of_eq aH1_size) (P.take 8)); (have HF7 := Lib.hid (hF)); (have HC7 := Lib.hid (hC)); (have HS7 := Lib.hid (hS)); (have HT7 := Lib.hid (hT)); (have HLN7 := Lib.hid (hLn)); (have HJ := Lib.hid (hj)); (obtain ⟨M, hM⟩ : ∃ M, A.take j = M := ⟨_, rfl⟩); (have HMJ := Lib.hid (hM)); (obtain ⟨ml, hml⟩ : ∃ ml, M.length = ml := ⟨_, rfl⟩); (have HNM := Lib.hid (hml)); (have HM6 := Lib.hid (show ml ≤ 6 by rw [← hml, ← hM, List.length_take]; have := HA6.out; omega)); (have hmlw : IntKind.i64.wrap ((ml : Int) + 1) = (ml : Int) + 1 := by rw [IntKind.wrap_i64]; have := HM6.out; omega); clear hW ha hb hj hF hC hS hT hLn hM hml k5)
      | (go_at_call 35; (with_reducible refine k6.mono ?_); rintro e w7 ⟨L7, rfl, hW, hD⟩; (have HD7 := Lib.hid (HL6.out.d.next hW hD)); (have RA7 := Lib.hid (RA6.out.over HL6.out.d hW.frm)); (have RB7 := Lib.hid (RB6.out.over HL6.out.d hW.frm)); (have k7 := lawOpen_is HD7.out.dir HD7.out.lo HD7.out.bel.size (HD7.out.gl G.out) (by rw [HF7.out.chg]; exact Nat.zero_le _) (fun n => Nat.le_trans (fold_texts HF7.out HS7.out n) (by decide))); clear hW hD k6)
      | (go_at_call 18; (with_reducible refine k7.mono ?_); rintro e w8 ⟨q1, hq, L8, x, v8, hO⟩; (obtain ⟨S8, W8, gs8, g8, e8, hv8, hk8⟩ := live_open HF7.out HC7.out HS7.out HT7.out HLN7.out (by decide) (by rw [HMJ.out, HNM.out]; have := HM6.out; omega) (by decide) (by decide) (HD7.out.unlike hq)); rw [HMJ.out] at hv8; rw [e8] at hO; (obtain rfl : e = .returned (.pointer (some ⟨x, 0, none⟩)) := hO.ret); (have HL8 := Lib.hid (show LAt w w8 b S8 L8 x W8 v8 from HD7.out.open_ G.out hO)); (have RA8 := Lib.hid (RA7.out.over HD7.out hO.frm)); (have RB8 := Lib.hid (RB7.out.over HD7.out hO.frm)); (have HV8 := Lib.hid (hv8)); (obtain ⟨n8, hc8⟩ := hv8.chain); (have HC8 := Lib.hid (hc8)); (have HT8 := Lib.hid (show topN (gs8 ++ [g8]) ≤ 2 by rw [top_snoc]; exact hv8.top)); (have HN8 := Lib.hid (show (gs8 ++ [g8]).length ≤ 2 by rw [List.length_append]; exact hv8.len)); (have k8 := lawOpen_is HL8.out.d.dir HL8.out.d.lo HL8.out.d.bel.size (HL8.out.d.gl G.out) (by rw [HV8.out.fold.chg]; exact Nat.zero_le _) (fun n => Nat.le_trans (fold_texts HV8.out.fold HV8.out.sum n) (by decide))); clear hq hO e8 hv8 hk8 hc8 k7)
      | (go_at_call 18; (with_reducible refine k8.mono ?_); rintro e w9 ⟨q2, hq, L9, y, v9, hO⟩; (obtain ⟨S9, W9, gs9, g9, e9, hv9, hk9⟩ := live_open HV8.out.fold HC8.out HV8.out.sum HT8.out HN8.out (by decide) (by rw [HNM.out]; have := HM6.out; omega) (by decide) (by decide) (HL8.out.unlike hq)); rw [e9] at hO; (obtain rfl : e = .returned (.pointer (some ⟨y, 0, none⟩)) := hO.ret); (have HL9 := Lib.hid (show LAt w w9 b S9 L9 y W9 v9 from HL8.out.d.open_ G.out hO)); (have RA9 := Lib.hid (RA8.out.over HL8.out.d hO.frm)); (have RB9 := Lib.hid (RB8.out.over HL8.out.d hO.frm)); (have OB9 := Lib.hid (show Off _ b S9 L9 y v9 from off_open RB8.out HL8.out.d hO)); (have HV9 := Lib.hid (hv9)); (have hx9 : WalAt w9 b S9 L9 x W8 v8 := HL8.out.beside hO); (have k9 : Calls Tryz.prog 25 #[.pointer (some ⟨x, 0, none⟩)] w9 (TDone M w9) := (by have h := records_is hx9 (HV8.out.fine (by decide) (by rw [HNM.out]; have := HM6.out; omega) (by decide)); rw [HV8.out.rc.1] at h; exact h)); clear hq hO e9 hv9 hk9 hx9 k8)
      | (go_at_call 25; (with_reducible refine k9.mono ?_); rintro e w10 ⟨uM, rfl, hR, hB⟩; (have HL10 := Lib.hid (HL9.out.below hB)); (have RA10 := Lib.hid (RA9.out.later hB)); (have RB10 := Lib.hid (RB9.out.later hB)); (have RM10 := Lib.hid (show R0 w10 uM M from row_base hR)); (have OM10 := Lib.hid (show Off uM b S9 L9 y v9 from off_fresh HL9.out (fun k hk => (World.ownsRow.lt hR k hk).1))); (obtain ⟨xm, cm, hum⟩ := RM10.out.slice); rw [HNM.out] at hum; subst hum; (have k10 : Calls Tryz.prog 25 #[.pointer (some ⟨y, 0, none⟩)] w10 (TDone M w10) := (by have h := records_is HL10.out.log.at_ (HV9.out.fine (by decide) (by rw [HNM.out]; have := HM6.out; omega) (by decide)); rw [HV9.out.rc.1] at h; exact h)); clear hR hB k9)
      | (go_at_call 25; (with_reducible refine k10.mono ?_); rintro e w11 ⟨uY, rfl, hR, hB⟩; (have HL11 := Lib.hid (HL10.out.below hB)); (have RA11 := Lib.hid (RA10.out.later hB)); (have RB11 := Lib.hid (RB10.out.later hB)); (have RM11 := Lib.hid (RM10.out.later hB)); (have RY11 := Lib.hid (show R0 w11 uY M from row_base hR)); (have HPZ := Lib.hid (show prefB M M (ml : Int) = true from by have e := prefB_self M; rw [HNM.out] at e; exact e)); (have k11 := prefix_is _ _ _ _ (ml : Int) _ RY11.out.ss RM11.out.ss true HPZ); clear hR hB k10)
      | (go_at_call 36; (with_reducible refine k11.mono ?_); rintro e w12 ⟨rfl, hB⟩; (have HL12 := Lib.hid (HL11.out.below hB)); (have RA12 := Lib.hid (RA11.out.later hB)); (have RB12 := Lib.hid (RB11.out.later hB)); (have RM12 := Lib.hid (RM11.out.later hB)); (have HPY := Lib.hid (show prefB M A 0 = true from by rw [← HMJ.out]; exact prefB_take A j HJ.out)); (have k12 := prefix_is _ _ _ _ 0 _ RM12.out.ss RA12.out.ss true HPY); clear hB k11)
      | (go_at_call 36; (with_reducible refine k12.mono ?_); rintro e w13 ⟨rfl, hB⟩; (have HL13 := Lib.hid (HL12.out.below hB)); (have RB13 := Lib.hid (RB12.out.later hB)); (have RM13 := Lib.hid (RM12.out.later hB)); (have k13 : Calls Tryz.prog 23 #[.pointer (some ⟨y, 0, none⟩)] w13 (fun e w' => e = .returned (.int .i64 1) ∧ w13 = w') := (by have h := first_is HL13.out.log.at_; rw [HV9.out.rc.2.1] at h; exact h)); clear hB k12)
      | (go_at_call 23; (with_reducible refine k13.mono ?_); rintro _ w14 ⟨rfl, rfl⟩; (have k15 : Calls Tryz.prog 30 #[.pointer (some ⟨y, 0, none⟩), .slice xb nb cb] w13 (WDone b S9 L9 y W9 v9 (appendW S9 W9 Bs) w13) := (by have h := append_is2 HL13.out.log (HV9.out.fine (by decide) (by rw [HNM.out]; have := HM6.out; omega) (by decide)) (by rw [HV9.out.rc.1]; rw [HNM.out]; have := HM6.out; omega) xb cb Bs (by have := HB6.out; omega) (fun s hs => Nat.le_trans (HBS.out s hs) (by decide)) (fun _ _ _ _ _ k => by have h1 := (RB13.out.went OB9.out k).1.ss; rw [HNB.out]; exact h1); rw [HNB.out] at h; exact h)); (obtain ⟨S15, W15, g15, e15, hv15, -⟩ := HV9.out.app HBS.out HB6.out (by decide)); rw [e15] at k15; (have HV15 := Lib.hid (hv15)); clear e15 hv15; clear k13)
      | (go_at_call 30; (with_reducible refine k15.mono ?_); rintro e w15 ⟨L15, v15, rfl, hW⟩; (have HL15 := Lib.hid (show LAt w w15 b S15 L15 y W15 v15 from HL13.out.next hW)); (obtain ⟨hb, hob⟩ := RB13.out.went OB9.out hW); (have RB15 := Lib.hid (hb)); (have OB15 := Lib.hid (show Off _ b S15 L15 y v15 from hob)); (obtain ⟨hm, hom⟩ := RM13.out.went OM10.out hW); (have RM15 := Lib.hid (hm)); (have OM15 := Lib.hid (show Off _ b S15 L15 y v15 from hom)); clear hm hom; (have k16 := sync_is2 HL15.out.log (HV15.out.fine (by decide) (by rw [List.length_append, HNM.out, HNB.out]; have := HM6.out; have := HBL.out; omega) (by decide)) HV15.out.chg); clear hW hb hob k15)
      | (go_at_call 19; (with_reducible refine k16.mono ?_); rintro e w16 ⟨q4, hq, hWD⟩; (obtain ⟨S16, W16, gs16, g16, e16, hv16, hk16⟩ := HV15.out.sync (by decide) (by rw [List.length_append, HNM.out, HNB.out]; have := HM6.out; have := HBL.out; omega) (by decide) (by decide) (HL15.out.unlike hq)); rw [e16] at hWD; (obtain ⟨L16, v16, rfl, hW⟩ := hWD); (have HL16 := Lib.hid (show LAt w w16 b S16 L16 y W16 v16 from HL15.out.next hW)); (obtain ⟨hb, -⟩ := RB15.out.went OB15.out hW); (have RB16 := Lib.hid (hb)); (obtain ⟨hm, hom⟩ := RM15.out.went OM15.out hW); (have RM16 := Lib.hid (hm)); clear hm hom; (have HV16 := Lib.hid (hv16)); (have HF17 := Lib.hid (hv16.crash hk16 (P.take 8))); (obtain ⟨n16, hc16⟩ := hv16.chain); (have HC16 := Lib.hid (hc16)); (have HT16 := Lib.hid (show topN (gs16 ++ [g16]) ≤ 5 by rw [top_snoc]; have := hv16.top; omega)); (have HN16 := Lib.hid (show (gs16 ++ [g16]).length ≤ 5 by rw [List.length_append]; have := hv16.len; show gs16.length + 1 ≤ 5; omega)); (have k17 := crash_dir (.slice (some ⟨pb, po, none⟩) 8 c3) (P.take 8) HL16.out.d.dir.at_ HL16.out.d.dir.whole (by rw [HV16.out.fold.chg]; exact Nat.zero_le _) (is_on HPI.out HL16.out.d)); clear hq hW hb e16 hv16 hk16 hc16 k16)
      | (go_at_call 35; (with_reducible refine k17.mono ?_); rintro e w17 ⟨L17, rfl, hW, hD⟩; (have HD17 := Lib.hid (HL16.out.d.next hW hD)); (have RB17 := Lib.hid (RB16.out.over HL16.out.d hW.frm)); (have RM17 := Lib.hid (RM16.out.over HL16.out.d hW.frm)); (have k18 := lawOpen_is HD17.out.dir HD17.out.lo HD17.out.bel.size (HD17.out.gl G.out) (by rw [HF17.out.chg]; exact Nat.zero_le _) (fun n => Nat.le_trans (fold_texts HF17.out HV16.out.sum n) (by decide))); clear hW hD k17)
      | (go_at_call 18; (with_reducible refine k18.mono ?_); rintro e w18 ⟨q5, hq, L18, z, v18, hO⟩; (obtain ⟨S18, W18, gs18, g18, e18, hv18, -⟩ := live_open HF17.out HC16.out HV16.out.sum HT16.out HN16.out (by decide) (by rw [List.length_append, HNM.out, HNB.out]; have := HM6.out; have := HBL.out; omega) (by decide) (by decide) (HD17.out.unlike hq)); rw [e18] at hO; (obtain rfl : e = .returned (.pointer (some ⟨z, 0, none⟩)) := hO.ret); (have HL18 := Lib.hid (show LAt w w18 b S18 L18 z W18 v18 from HD17.out.open_ G.out hO)); (have RB18 := Lib.hid (RB17.out.over HD17.out hO.frm)); (have RM18 := Lib.hid (RM17.out.over HD17.out hO.frm)); (have HV18 := Lib.hid (hv18)); (have k19 : Calls Tryz.prog 25 #[.pointer (some ⟨z, 0, none⟩)] w18 (TDone (M ++ Bs) w18) := (by have h := records_is HL18.out.log.at_ (HV18.out.fine (by decide) (by rw [List.length_append, HNM.out, HNB.out]; have := HM6.out; have := HBL.out; omega) (by decide)); rw [HV18.out.rc.1] at h; exact h)); clear hq hO e18 hv18 k18)
      | (go_at_call 25; (with_reducible refine k19.mono ?_); rintro e w19 ⟨uZ, rfl, hR, hB⟩; (have HL19 := Lib.hid (HL18.out.below hB)); (have RB19 := Lib.hid (RB18.out.later hB)); (have RM19 := Lib.hid (RM18.out.later hB)); (obtain ⟨xz, cz, huz, hcz, hz1, hz2, hz3⟩ := cuts (show R0 w19 uZ (M ++ Bs) from row_base hR) HNM.out HNB.out); subst huz; (obtain ⟨zl, hzl⟩ : ∃ zl, ml + nb = zl := ⟨_, rfl⟩); rw [hzl] at hcz hz2 hz3; simp only [hzl]; (have hsw : IntKind.i64.wrap ((ml : Int) + (nb : Int)) = (zl : Int) := by rw [IntKind.wrap_i64]; have := HM6.out; have := HBL.out; omega); (have hmz : (ml : Int) ≤ (cz : Int) := by omega); (have hmz2 : (ml : Int) ≤ (zl : Int) := by omega); (have hmz3 : (zl : Int) ≤ (cz : Int) := by omega); (have hmz4 : ml ≤ cz := by omega); (have hmz5 : ml ≤ zl := by omega); (have HZ1 := Lib.hid (hz1)); (have HZ2 := Lib.hid (hz2)); (have HZ3 := Lib.hid (hz3)); (have HPX := Lib.hid (show prefB M M (ml : Int) = true from by have e := prefB_self M; rw [HNM.out] at e; exact e)); (have HPW := Lib.hid (show prefB Bs Bs (nb : Int) = true from by have e := prefB_self Bs; rw [HNB.out] at e; exact e)); clear hR hB hz1 hz2 hz3 k19)
      | (go_at_call 36; (with_reducible refine (prefix_is _ _ _ _ (ml : Int) _ HZ1.out RM19.out.ss true HPX).mono ?_); rintro e w20 ⟨rfl, hB⟩; (have HL20 := Lib.hid (HL19.out.below hB)); (have RB20 := Lib.hid (RB19.out.later hB)); (have HZ20 := Lib.hid (fun q => (HZ2.out q).below hB)); (have HZ30 := Lib.hid (fun q => (HZ3.out q).below hB)); clear hB)
      | (go_at_call 36; (first | (with_reducible refine (prefix_is _ _ _ _ (nb : Int) _ (HZ20.out (by omega)) RB20.out.ss true HPW).mono ?_) | (with_reducible refine (prefix_is _ _ _ _ (nb : Int) _ (HZ30.out (by omega)) RB20.out.ss true HPW).mono ?_)); rintro e w21 ⟨rfl, hB⟩; (have HL21 := Lib.hid (HL20.out.below hB)); (have k22 : Calls Tryz.prog 24 #[.pointer (some ⟨z, 0, none⟩)] w21 (fun e w' => e = .returned (.string ⟨#[]⟩) ∧ w21 = w') := (by have h := state_is HL21.out.log.at_; rw [HV18.out.rc.2.2] at h; exact h)); clear hB)
      | (go_at_call 24; (with_reducible refine k22.mono ?_); rintro _ w22 ⟨rfl, rfl⟩; clear k22))
    all_goals (go_ret; exact ⟨rfl, HL21.out.bel⟩)
  · have HPI := Lib.hid hPI
    clear h3 hPI
    by_cases hodd : (n3 : Int) % 2 = 1
    · have hodd2 : (n3 : Int).tmod 2 = 1 := by rw [Int.tmod_eq_emod_of_nonneg (by omega)]; exact hodd
      go_enter Tryz.func8, Tryz.ntmps8
      go_wp2_with (first
        | (go_at_call 9; (with_reducible refine ka.mono ?_); rintro _ w1 ⟨rfl, hB⟩; (have HB1 := Lib.hid (hB)); (have k1 := new_dir 1000000 w1); clear hB ka)
        | (go_at_call 17; (with_reducible refine k1.mono ?_); rintro e w2 ⟨b, L2, rfl, hD, hB, hlo⟩; (have HD2 := Lib.hid (show DAt w w2 b (emptyS 1000000) L2 from ⟨hD, fun k hk => Nat.le_trans HB1.out.size (hlo k hk), HB1.out.trans (hB.mono HB1.out.size)⟩)); (have k2 := lawOpen_is HD2.out.dir HD2.out.lo HD2.out.bel.size (HD2.out.gl G.out) (by show 0 ≤ 800000; decide) (text0 1000000)); clear hD hB hlo k1)
        | (go_at_call 18; (with_reducible refine k2.mono ?_); rintro e w3 ⟨q0, -, L3, a, v3, hO⟩; rw [one_open0 1000000 (by decide)] at hO; (obtain rfl : e = .returned (.pointer (some ⟨a, 0, none⟩)) := hO.ret); (have HL3 := Lib.hid (show LAt w w3 b (oneS 1000000 q0 aH1 8) L3 a (aW 1 ⟨#[]⟩ 1 [] 0) v3 from HD2.out.open_ G.out hO)); (have k3 := HFA.out w3 HL3.out.bel); clear hO k2)
        | (go_at_call 29; (with_reducible refine k3.mono ?_); rintro e w4 ⟨uA, rfl, hR, hn, hB⟩; (have HL4 := Lib.hid (HL3.out.below hB)); (have RA4 := Lib.hid (hR)); (have OA4 := Lib.hid (off_fresh HL3.out hn)); (obtain ⟨xa, ca, hua⟩ := hR.slice); rw [HNA.out] at hua; subst hua; (have k4 := HFB.out w4 HL4.out.bel); clear hR hn hB k3)
        | (go_at_call 29; (with_reducible refine k4.mono ?_); rintro e w5 ⟨uB, rfl, hR, hn, hB⟩; (have HL5 := Lib.hid (HL4.out.below hB)); (have RA5 := Lib.hid (RA4.out.later hB)); (have RB5 := Lib.hid (hR)); (have OB5 := Lib.hid (off_fresh HL4.out hn)); (obtain ⟨xb, cb, hub⟩ := hR.slice); rw [HNB.out] at hub; subst hub; (have k5 : Calls Tryz.prog 30 #[.pointer (some ⟨a, 0, none⟩), .slice xa na ca] w5 (WDone b (oneS 1000000 q0 aH1 8) L3 a (aW 1 ⟨#[]⟩ 1 [] 0) v3 (appendW (oneS 1000000 q0 aH1 8) (aW 1 ⟨#[]⟩ 1 [] 0) A) w5) := (by have h := append_is2 HL5.out.log ((live_new q0).fine (by decide) (by decide) (by decide)) (by decide) xa ca A (by have := HA6.out; omega) (fun s hs => Nat.le_trans (HAS.out s hs) (by decide)) (fun _ _ _ _ _ k => by have h1 := (RA5.out.went OA4.out k).1.ss; rw [HNA.out]; exact h1); rw [HNA.out] at h; exact h)); (obtain ⟨S6, W6, g6, e6, hv6, hk6⟩ := (live_new q0).app HAS.out HA6.out (by decide)); rw [e6] at k5; rw [List.nil_append] at hv6; (have HV6 := Lib.hid (hv6)); (have HK6 := Lib.hid (hk6)); clear hR hn hB k4 e6 hv6 hk6)
        | (go_at_call 30; (with_reducible refine k5.mono ?_); rintro e w6 ⟨L6, v6, rfl, hW⟩; (have HL6 := Lib.hid (show LAt w w6 b S6 L6 a W6 v6 from HL5.out.next hW)); (obtain ⟨ha, -⟩ := RA5.out.went OA4.out hW); (have RA6 := Lib.hid (ha)); (obtain ⟨hb, -⟩ := RB5.out.went OB5.out hW); (have RB6 := Lib.hid (hb)); (have k6 := crash_dir (.slice a3 n3 c3) (P) HL6.out.d.dir.at_ HL6.out.d.dir.whole (by rw [HV6.out.fold.chg]; exact Nat.zero_le _) (is_on HPI.out HL6.out.d)); (obtain ⟨j, G7, hj, hF, hC, hS, hT, hLn⟩ := HV6.out.torn (by rw [HK6.out]; show aH1.size ≤ 8; exact Nat.le_of_eq aH1_size) (P)); (have HF7 := Lib.hid (hF)); (have HC7 := Lib.hid (hC)); (have HS7 := Lib.hid (hS)); (have HT7 := Lib.hid (hT)); (have HLN7 := Lib.hid (hLn)); (have HJ := Lib.hid (hj)); (obtain ⟨M, hM⟩ : ∃ M, A.take j = M := ⟨_, rfl⟩); (have HMJ := Lib.hid (hM)); (obtain ⟨ml, hml⟩ : ∃ ml, M.length = ml := ⟨_, rfl⟩); (have HNM := Lib.hid (hml)); (have HM6 := Lib.hid (show ml ≤ 6 by rw [← hml, ← hM, List.length_take]; have := HA6.out; omega)); (have hmlw : IntKind.i64.wrap ((ml : Int) + 1) = (ml : Int) + 1 := by rw [IntKind.wrap_i64]; have := HM6.out; omega); clear hW ha hb hj hF hC hS hT hLn hM hml k5)
        | (go_at_call 35; (with_reducible refine k6.mono ?_); rintro e w7 ⟨L7, rfl, hW, hD⟩; (have HD7 := Lib.hid (HL6.out.d.next hW hD)); (have RA7 := Lib.hid (RA6.out.over HL6.out.d hW.frm)); (have RB7 := Lib.hid (RB6.out.over HL6.out.d hW.frm)); (have k7 := lawOpen_is HD7.out.dir HD7.out.lo HD7.out.bel.size (HD7.out.gl G.out) (by rw [HF7.out.chg]; exact Nat.zero_le _) (fun n => Nat.le_trans (fold_texts HF7.out HS7.out n) (by decide))); clear hW hD k6)
        | (go_at_call 18; (with_reducible refine k7.mono ?_); rintro e w8 ⟨q1, hq, L8, x, v8, hO⟩; (obtain ⟨S8, W8, gs8, g8, e8, hv8, hk8⟩ := live_open HF7.out HC7.out HS7.out HT7.out HLN7.out (by decide) (by rw [HMJ.out, HNM.out]; have := HM6.out; omega) (by decide) (by decide) (HD7.out.unlike hq)); rw [HMJ.out] at hv8; rw [e8] at hO; (obtain rfl : e = .returned (.pointer (some ⟨x, 0, none⟩)) := hO.ret); (have HL8 := Lib.hid (show LAt w w8 b S8 L8 x W8 v8 from HD7.out.open_ G.out hO)); (have RA8 := Lib.hid (RA7.out.over HD7.out hO.frm)); (have RB8 := Lib.hid (RB7.out.over HD7.out hO.frm)); (have HV8 := Lib.hid (hv8)); (obtain ⟨n8, hc8⟩ := hv8.chain); (have HC8 := Lib.hid (hc8)); (have HT8 := Lib.hid (show topN (gs8 ++ [g8]) ≤ 2 by rw [top_snoc]; exact hv8.top)); (have HN8 := Lib.hid (show (gs8 ++ [g8]).length ≤ 2 by rw [List.length_append]; exact hv8.len)); (have k8 := lawOpen_is HL8.out.d.dir HL8.out.d.lo HL8.out.d.bel.size (HL8.out.d.gl G.out) (by rw [HV8.out.fold.chg]; exact Nat.zero_le _) (fun n => Nat.le_trans (fold_texts HV8.out.fold HV8.out.sum n) (by decide))); clear hq hO e8 hv8 hk8 hc8 k7)
        | (go_at_call 18; (with_reducible refine k8.mono ?_); rintro e w9 ⟨q2, hq, L9, y, v9, hO⟩; (obtain ⟨S9, W9, gs9, g9, e9, hv9, hk9⟩ := live_open HV8.out.fold HC8.out HV8.out.sum HT8.out HN8.out (by decide) (by rw [HNM.out]; have := HM6.out; omega) (by decide) (by decide) (HL8.out.unlike hq)); rw [e9] at hO; (obtain rfl : e = .returned (.pointer (some ⟨y, 0, none⟩)) := hO.ret); (have HL9 := Lib.hid (show LAt w w9 b S9 L9 y W9 v9 from HL8.out.d.open_ G.out hO)); (have RA9 := Lib.hid (RA8.out.over HL8.out.d hO.frm)); (have RB9 := Lib.hid (RB8.out.over HL8.out.d hO.frm)); (have OB9 := Lib.hid (show Off _ b S9 L9 y v9 from off_open RB8.out HL8.out.d hO)); (have HV9 := Lib.hid (hv9)); (have hx9 : WalAt w9 b S9 L9 x W8 v8 := HL8.out.beside hO); (have k9 : Calls Tryz.prog 25 #[.pointer (some ⟨x, 0, none⟩)] w9 (TDone M w9) := (by have h := records_is hx9 (HV8.out.fine (by decide) (by rw [HNM.out]; have := HM6.out; omega) (by decide)); rw [HV8.out.rc.1] at h; exact h)); clear hq hO e9 hv9 hk9 hx9 k8)
        | (go_at_call 25; (with_reducible refine k9.mono ?_); rintro e w10 ⟨uM, rfl, hR, hB⟩; (have HL10 := Lib.hid (HL9.out.below hB)); (have RA10 := Lib.hid (RA9.out.later hB)); (have RB10 := Lib.hid (RB9.out.later hB)); (have RM10 := Lib.hid (show R0 w10 uM M from row_base hR)); (have OM10 := Lib.hid (show Off uM b S9 L9 y v9 from off_fresh HL9.out (fun k hk => (World.ownsRow.lt hR k hk).1))); (obtain ⟨xm, cm, hum⟩ := RM10.out.slice); rw [HNM.out] at hum; subst hum; (have k10 : Calls Tryz.prog 25 #[.pointer (some ⟨y, 0, none⟩)] w10 (TDone M w10) := (by have h := records_is HL10.out.log.at_ (HV9.out.fine (by decide) (by rw [HNM.out]; have := HM6.out; omega) (by decide)); rw [HV9.out.rc.1] at h; exact h)); clear hR hB k9)
        | (go_at_call 25; (with_reducible refine k10.mono ?_); rintro e w11 ⟨uY, rfl, hR, hB⟩; (have HL11 := Lib.hid (HL10.out.below hB)); (have RA11 := Lib.hid (RA10.out.later hB)); (have RB11 := Lib.hid (RB10.out.later hB)); (have RM11 := Lib.hid (RM10.out.later hB)); (have RY11 := Lib.hid (show R0 w11 uY M from row_base hR)); (have HPZ := Lib.hid (show prefB M M (ml : Int) = true from by have e := prefB_self M; rw [HNM.out] at e; exact e)); (have k11 := prefix_is _ _ _ _ (ml : Int) _ RY11.out.ss RM11.out.ss true HPZ); clear hR hB k10)
        | (go_at_call 36; (with_reducible refine k11.mono ?_); rintro e w12 ⟨rfl, hB⟩; (have HL12 := Lib.hid (HL11.out.below hB)); (have RA12 := Lib.hid (RA11.out.later hB)); (have RB12 := Lib.hid (RB11.out.later hB)); (have RM12 := Lib.hid (RM11.out.later hB)); (have HPY := Lib.hid (show prefB M A 0 = true from by rw [← HMJ.out]; exact prefB_take A j HJ.out)); (have k12 := prefix_is _ _ _ _ 0 _ RM12.out.ss RA12.out.ss true HPY); clear hB k11)
        | (go_at_call 36; (with_reducible refine k12.mono ?_); rintro e w13 ⟨rfl, hB⟩; (have HL13 := Lib.hid (HL12.out.below hB)); (have RB13 := Lib.hid (RB12.out.later hB)); (have RM13 := Lib.hid (RM12.out.later hB)); (have k13 : Calls Tryz.prog 23 #[.pointer (some ⟨y, 0, none⟩)] w13 (fun e w' => e = .returned (.int .i64 1) ∧ w13 = w') := (by have h := first_is HL13.out.log.at_; rw [HV9.out.rc.2.1] at h; exact h)); clear hB k12)
        | (go_at_call 23; (with_reducible refine k13.mono ?_); rintro _ w14 ⟨rfl, rfl⟩; (have k14 := ckpt_is HL13.out.log (HV9.out.fine (by decide) (by rw [HNM.out]; have := HM6.out; omega) (by decide)) ⟨#[115, 116, 97, 116, 101]⟩ HV9.out.chg (by rw [HV9.out.last, HNM.out]; have := HM6.out; omega)); clear k13)
        | (go_at_call 22; (with_reducible refine k14.mono ?_); rintro e w14 ⟨q3, hq, hWD⟩; (obtain ⟨S14, W14, g14, e14, hv14, hk14⟩ := HV9.out.ckpt (by decide) (by rw [HNM.out]; have := HM6.out; omega) (by decide) (by decide) (s2 := ⟨#[115, 116, 97, 116, 101]⟩) (by decide) (HL13.out.unlike hq)); rw [e14] at hWD; (obtain ⟨L14, v14, rfl, hW⟩ := hWD); (have HL14 := Lib.hid (show LAt w w14 b S14 L14 y W14 v14 from HL13.out.next hW)); (obtain ⟨hb, hob⟩ := RB13.out.went OB9.out hW); (have RB14 := Lib.hid (hb)); (have OB14 := Lib.hid (show Off _ b S14 L14 y v14 from hob)); rw [HNM.out] at hv14; (have HV14 := Lib.hid (hv14)); (have k15 : Calls Tryz.prog 30 #[.pointer (some ⟨y, 0, none⟩), .slice xb nb cb] w14 (WDone b S14 L14 y W14 v14 (appendW S14 W14 Bs) w14) := (by have h := append_is2 HL14.out.log (HV14.out.fine (by have := HM6.out; omega) (Nat.zero_le _) (by decide)) (by rw [HV14.out.rc.1]; exact Nat.zero_le _) xb cb Bs (by have := HB6.out; omega) (fun s hs => Nat.le_trans (HBS.out s hs) (by decide)) (fun _ _ _ _ _ k => by have h1 := (RB14.out.went OB14.out k).1.ss; rw [HNB.out]; exact h1); rw [HNB.out] at h; exact h)); (obtain ⟨S15, W15, g15, e15, hv15, -⟩ := HV14.out.app HBS.out HB6.out (by decide)); rw [e15] at k15; rw [List.nil_append] at hv15; (have HV15 := Lib.hid (hv15)); clear e15 hv15; clear hq hW hb hob e14 hv14 hk14 k14)
        | (go_at_call 30; (with_reducible refine k15.mono ?_); rintro e w15 ⟨L15, v15, rfl, hW⟩; (have HL15 := Lib.hid (show LAt w w15 b S15 L15 y W15 v15 from HL14.out.next hW)); (obtain ⟨hb, hob⟩ := RB14.out.went OB14.out hW); (have RB15 := Lib.hid (hb)); (have OB15 := Lib.hid (show Off _ b S15 L15 y v15 from hob)); (have k16 := sync_is2 HL15.out.log (HV15.out.fine (by have := HM6.out; omega) (by rw [HNB.out]; have := HBL.out; omega) (by decide)) HV15.out.chg); clear hW hb hob k15)
        | (go_at_call 19; (with_reducible refine k16.mono ?_); rintro e w16 ⟨q4, hq, hWD⟩; (obtain ⟨S16, W16, gs16, g16, e16, hv16, hk16⟩ := HV15.out.sync (by have := HM6.out; omega) (by rw [HNB.out]; have := HBL.out; omega) (by decide) (by decide) (HL15.out.unlike hq)); rw [e16] at hWD; (obtain ⟨L16, v16, rfl, hW⟩ := hWD); (have HL16 := Lib.hid (show LAt w w16 b S16 L16 y W16 v16 from HL15.out.next hW)); (obtain ⟨hb, -⟩ := RB15.out.went OB15.out hW); (have RB16 := Lib.hid (hb)); (have HV16 := Lib.hid (hv16)); (have HF17 := Lib.hid (hv16.crash hk16 (P))); (obtain ⟨n16, hc16⟩ := hv16.chain); (have HC16 := Lib.hid (hc16)); (have HT16 := Lib.hid (show topN (gs16 ++ [g16]) ≤ 5 by rw [top_snoc]; have := hv16.top; omega)); (have HN16 := Lib.hid (show (gs16 ++ [g16]).length ≤ 5 by rw [List.length_append]; have := hv16.len; show gs16.length + 1 ≤ 5; omega)); (have k17 := crash_dir (.slice a3 n3 c3) (P) HL16.out.d.dir.at_ HL16.out.d.dir.whole (by rw [HV16.out.fold.chg]; exact Nat.zero_le _) (is_on HPI.out HL16.out.d)); clear hq hW hb e16 hv16 hk16 hc16 k16)
        | (go_at_call 35; (with_reducible refine k17.mono ?_); rintro e w17 ⟨L17, rfl, hW, hD⟩; (have HD17 := Lib.hid (HL16.out.d.next hW hD)); (have RB17 := Lib.hid (RB16.out.over HL16.out.d hW.frm)); (have k18 := lawOpen_is HD17.out.dir HD17.out.lo HD17.out.bel.size (HD17.out.gl G.out) (by rw [HF17.out.chg]; exact Nat.zero_le _) (fun n => Nat.le_trans (fold_texts HF17.out HV16.out.sum n) (by decide))); clear hW hD k17)
        | (go_at_call 18; (with_reducible refine k18.mono ?_); rintro e w18 ⟨q5, hq, L18, z, v18, hO⟩; (obtain ⟨S18, W18, gs18, g18, e18, hv18, -⟩ := live_open HF17.out HC16.out HV16.out.sum HT16.out HN16.out (by have := HM6.out; omega) (by rw [HNB.out]; have := HBL.out; omega) (by decide) (by decide) (HD17.out.unlike hq)); rw [e18] at hO; (obtain rfl : e = .returned (.pointer (some ⟨z, 0, none⟩)) := hO.ret); (have HL18 := Lib.hid (show LAt w w18 b S18 L18 z W18 v18 from HD17.out.open_ G.out hO)); (have RB18 := Lib.hid (RB17.out.over HD17.out hO.frm)); (have HV18 := Lib.hid (hv18)); (have k19 : Calls Tryz.prog 25 #[.pointer (some ⟨z, 0, none⟩)] w18 (TDone Bs w18) := (by have h := records_is HL18.out.log.at_ (HV18.out.fine (by have := HM6.out; omega) (by rw [HNB.out]; have := HBL.out; omega) (by decide)); rw [HV18.out.rc.1] at h; exact h)); clear hq hO e18 hv18 k18)
        | (go_at_call 25; (with_reducible refine k19.mono ?_); rintro e w19 ⟨uZ, rfl, hR, hB⟩; (have HL19 := Lib.hid (HL18.out.below hB)); (have RB19 := Lib.hid (RB18.out.later hB)); (have RZ19 := Lib.hid (show R0 w19 uZ Bs from row_base hR)); (have HPX := Lib.hid (show prefB Bs Bs (nb : Int) = true from by have e := prefB_self Bs; rw [HNB.out] at e; exact e)); (have k20 := prefix_is _ _ _ _ (nb : Int) _ RZ19.out.ss RB19.out.ss true HPX); clear hR hB k19)
        | (go_at_call 36; (with_reducible refine k20.mono ?_); rintro e w20 ⟨rfl, hB⟩; (have HL20 := Lib.hid (HL19.out.below hB)); (have k21 : Calls Tryz.prog 24 #[.pointer (some ⟨z, 0, none⟩)] w20 (fun e w' => e = .returned (.string ⟨#[115, 116, 97, 116, 101]⟩) ∧ w20 = w') := (by have h := state_is HL20.out.log.at_; rw [HV18.out.rc.2.2] at h; exact h)); (have k22 : Calls Tryz.prog 23 #[.pointer (some ⟨z, 0, none⟩)] w20 (fun e w' => e = .returned (.int .i64 ((ml : Int) + 1)) ∧ w20 = w') := (by have h := first_is HL20.out.log.at_; rw [HV18.out.rc.2.1, Int.add_comm] at h; exact h)); clear hB k20)
        | (go_at_call 24; (with_reducible refine k21.mono ?_); rintro _ w21 ⟨rfl, rfl⟩; clear k21)
        | (go_at_call 23; (with_reducible refine k22.mono ?_); rintro _ w22 ⟨rfl, rfl⟩; clear k22))
      all_goals (go_ret; exact ⟨rfl, HL20.out.bel⟩)
    · have hodd2 : ¬ (n3 : Int).tmod 2 = 1 := by rw [Int.tmod_eq_emod_of_nonneg (by omega)]; exact hodd
      go_enter Tryz.func8, Tryz.ntmps8
      go_wp2_with (first
        | (go_at_call 9; (with_reducible refine ka.mono ?_); rintro _ w1 ⟨rfl, hB⟩; (have HB1 := Lib.hid (hB)); (have k1 := new_dir 1000000 w1); clear hB ka)
        | (go_at_call 17; (with_reducible refine k1.mono ?_); rintro e w2 ⟨b, L2, rfl, hD, hB, hlo⟩; (have HD2 := Lib.hid (show DAt w w2 b (emptyS 1000000) L2 from ⟨hD, fun k hk => Nat.le_trans HB1.out.size (hlo k hk), HB1.out.trans (hB.mono HB1.out.size)⟩)); (have k2 := lawOpen_is HD2.out.dir HD2.out.lo HD2.out.bel.size (HD2.out.gl G.out) (by show 0 ≤ 800000; decide) (text0 1000000)); clear hD hB hlo k1)
        | (go_at_call 18; (with_reducible refine k2.mono ?_); rintro e w3 ⟨q0, -, L3, a, v3, hO⟩; rw [one_open0 1000000 (by decide)] at hO; (obtain rfl : e = .returned (.pointer (some ⟨a, 0, none⟩)) := hO.ret); (have HL3 := Lib.hid (show LAt w w3 b (oneS 1000000 q0 aH1 8) L3 a (aW 1 ⟨#[]⟩ 1 [] 0) v3 from HD2.out.open_ G.out hO)); (have k3 := HFA.out w3 HL3.out.bel); clear hO k2)
        | (go_at_call 29; (with_reducible refine k3.mono ?_); rintro e w4 ⟨uA, rfl, hR, hn, hB⟩; (have HL4 := Lib.hid (HL3.out.below hB)); (have RA4 := Lib.hid (hR)); (have OA4 := Lib.hid (off_fresh HL3.out hn)); (obtain ⟨xa, ca, hua⟩ := hR.slice); rw [HNA.out] at hua; subst hua; (have k4 := HFB.out w4 HL4.out.bel); clear hR hn hB k3)
        | (go_at_call 29; (with_reducible refine k4.mono ?_); rintro e w5 ⟨uB, rfl, hR, hn, hB⟩; (have HL5 := Lib.hid (HL4.out.below hB)); (have RA5 := Lib.hid (RA4.out.later hB)); (have RB5 := Lib.hid (hR)); (have OB5 := Lib.hid (off_fresh HL4.out hn)); (obtain ⟨xb, cb, hub⟩ := hR.slice); rw [HNB.out] at hub; subst hub; (have k5 : Calls Tryz.prog 30 #[.pointer (some ⟨a, 0, none⟩), .slice xa na ca] w5 (WDone b (oneS 1000000 q0 aH1 8) L3 a (aW 1 ⟨#[]⟩ 1 [] 0) v3 (appendW (oneS 1000000 q0 aH1 8) (aW 1 ⟨#[]⟩ 1 [] 0) A) w5) := (by have h := append_is2 HL5.out.log ((live_new q0).fine (by decide) (by decide) (by decide)) (by decide) xa ca A (by have := HA6.out; omega) (fun s hs => Nat.le_trans (HAS.out s hs) (by decide)) (fun _ _ _ _ _ k => by have h1 := (RA5.out.went OA4.out k).1.ss; rw [HNA.out]; exact h1); rw [HNA.out] at h; exact h)); (obtain ⟨S6, W6, g6, e6, hv6, hk6⟩ := (live_new q0).app HAS.out HA6.out (by decide)); rw [e6] at k5; rw [List.nil_append] at hv6; (have HV6 := Lib.hid (hv6)); (have HK6 := Lib.hid (hk6)); clear hR hn hB k4 e6 hv6 hk6)
        | (go_at_call 30; (with_reducible refine k5.mono ?_); rintro e w6 ⟨L6, v6, rfl, hW⟩; (have HL6 := Lib.hid (show LAt w w6 b S6 L6 a W6 v6 from HL5.out.next hW)); (obtain ⟨ha, -⟩ := RA5.out.went OA4.out hW); (have RA6 := Lib.hid (ha)); (obtain ⟨hb, -⟩ := RB5.out.went OB5.out hW); (have RB6 := Lib.hid (hb)); (have k6 := crash_dir (.slice a3 n3 c3) (P) HL6.out.d.dir.at_ HL6.out.d.dir.whole (by rw [HV6.out.fold.chg]; exact Nat.zero_le _) (is_on HPI.out HL6.out.d)); (obtain ⟨j, G7, hj, hF, hC, hS, hT, hLn⟩ := HV6.out.torn (by rw [HK6.out]; show aH1.size ≤ 8; exact Nat.le_of_eq aH1_size) (P)); (have HF7 := Lib.hid (hF)); (have HC7 := Lib.hid (hC)); (have HS7 := Lib.hid (hS)); (have HT7 := Lib.hid (hT)); (have HLN7 := Lib.hid (hLn)); (have HJ := Lib.hid (hj)); (obtain ⟨M, hM⟩ : ∃ M, A.take j = M := ⟨_, rfl⟩); (have HMJ := Lib.hid (hM)); (obtain ⟨ml, hml⟩ : ∃ ml, M.length = ml := ⟨_, rfl⟩); (have HNM := Lib.hid (hml)); (have HM6 := Lib.hid (show ml ≤ 6 by rw [← hml, ← hM, List.length_take]; have := HA6.out; omega)); (have hmlw : IntKind.i64.wrap ((ml : Int) + 1) = (ml : Int) + 1 := by rw [IntKind.wrap_i64]; have := HM6.out; omega); clear hW ha hb hj hF hC hS hT hLn hM hml k5)
        | (go_at_call 35; (with_reducible refine k6.mono ?_); rintro e w7 ⟨L7, rfl, hW, hD⟩; (have HD7 := Lib.hid (HL6.out.d.next hW hD)); (have RA7 := Lib.hid (RA6.out.over HL6.out.d hW.frm)); (have RB7 := Lib.hid (RB6.out.over HL6.out.d hW.frm)); (have k7 := lawOpen_is HD7.out.dir HD7.out.lo HD7.out.bel.size (HD7.out.gl G.out) (by rw [HF7.out.chg]; exact Nat.zero_le _) (fun n => Nat.le_trans (fold_texts HF7.out HS7.out n) (by decide))); clear hW hD k6)
        | (go_at_call 18; (with_reducible refine k7.mono ?_); rintro e w8 ⟨q1, hq, L8, x, v8, hO⟩; (obtain ⟨S8, W8, gs8, g8, e8, hv8, hk8⟩ := live_open HF7.out HC7.out HS7.out HT7.out HLN7.out (by decide) (by rw [HMJ.out, HNM.out]; have := HM6.out; omega) (by decide) (by decide) (HD7.out.unlike hq)); rw [HMJ.out] at hv8; rw [e8] at hO; (obtain rfl : e = .returned (.pointer (some ⟨x, 0, none⟩)) := hO.ret); (have HL8 := Lib.hid (show LAt w w8 b S8 L8 x W8 v8 from HD7.out.open_ G.out hO)); (have RA8 := Lib.hid (RA7.out.over HD7.out hO.frm)); (have RB8 := Lib.hid (RB7.out.over HD7.out hO.frm)); (have HV8 := Lib.hid (hv8)); (obtain ⟨n8, hc8⟩ := hv8.chain); (have HC8 := Lib.hid (hc8)); (have HT8 := Lib.hid (show topN (gs8 ++ [g8]) ≤ 2 by rw [top_snoc]; exact hv8.top)); (have HN8 := Lib.hid (show (gs8 ++ [g8]).length ≤ 2 by rw [List.length_append]; exact hv8.len)); (have k8 := lawOpen_is HL8.out.d.dir HL8.out.d.lo HL8.out.d.bel.size (HL8.out.d.gl G.out) (by rw [HV8.out.fold.chg]; exact Nat.zero_le _) (fun n => Nat.le_trans (fold_texts HV8.out.fold HV8.out.sum n) (by decide))); clear hq hO e8 hv8 hk8 hc8 k7)
        | (go_at_call 18; (with_reducible refine k8.mono ?_); rintro e w9 ⟨q2, hq, L9, y, v9, hO⟩; (obtain ⟨S9, W9, gs9, g9, e9, hv9, hk9⟩ := live_open HV8.out.fold HC8.out HV8.out.sum HT8.out HN8.out (by decide) (by rw [HNM.out]; have := HM6.out; omega) (by decide) (by decide) (HL8.out.unlike hq)); rw [e9] at hO; (obtain rfl : e = .returned (.pointer (some ⟨y, 0, none⟩)) := hO.ret); (have HL9 := Lib.hid (show LAt w w9 b S9 L9 y W9 v9 from HL8.out.d.open_ G.out hO)); (have RA9 := Lib.hid (RA8.out.over HL8.out.d hO.frm)); (have RB9 := Lib.hid (RB8.out.over HL8.out.d hO.frm)); (have OB9 := Lib.hid (show Off _ b S9 L9 y v9 from off_open RB8.out HL8.out.d hO)); (have HV9 := Lib.hid (hv9)); (have hx9 : WalAt w9 b S9 L9 x W8 v8 := HL8.out.beside hO); (have k9 : Calls Tryz.prog 25 #[.pointer (some ⟨x, 0, none⟩)] w9 (TDone M w9) := (by have h := records_is hx9 (HV8.out.fine (by decide) (by rw [HNM.out]; have := HM6.out; omega) (by decide)); rw [HV8.out.rc.1] at h; exact h)); clear hq hO e9 hv9 hk9 hx9 k8)
        | (go_at_call 25; (with_reducible refine k9.mono ?_); rintro e w10 ⟨uM, rfl, hR, hB⟩; (have HL10 := Lib.hid (HL9.out.below hB)); (have RA10 := Lib.hid (RA9.out.later hB)); (have RB10 := Lib.hid (RB9.out.later hB)); (have RM10 := Lib.hid (show R0 w10 uM M from row_base hR)); (have OM10 := Lib.hid (show Off uM b S9 L9 y v9 from off_fresh HL9.out (fun k hk => (World.ownsRow.lt hR k hk).1))); (obtain ⟨xm, cm, hum⟩ := RM10.out.slice); rw [HNM.out] at hum; subst hum; (have k10 : Calls Tryz.prog 25 #[.pointer (some ⟨y, 0, none⟩)] w10 (TDone M w10) := (by have h := records_is HL10.out.log.at_ (HV9.out.fine (by decide) (by rw [HNM.out]; have := HM6.out; omega) (by decide)); rw [HV9.out.rc.1] at h; exact h)); clear hR hB k9)
        | (go_at_call 25; (with_reducible refine k10.mono ?_); rintro e w11 ⟨uY, rfl, hR, hB⟩; (have HL11 := Lib.hid (HL10.out.below hB)); (have RA11 := Lib.hid (RA10.out.later hB)); (have RB11 := Lib.hid (RB10.out.later hB)); (have RM11 := Lib.hid (RM10.out.later hB)); (have RY11 := Lib.hid (show R0 w11 uY M from row_base hR)); (have HPZ := Lib.hid (show prefB M M (ml : Int) = true from by have e := prefB_self M; rw [HNM.out] at e; exact e)); (have k11 := prefix_is _ _ _ _ (ml : Int) _ RY11.out.ss RM11.out.ss true HPZ); clear hR hB k10)
        | (go_at_call 36; (with_reducible refine k11.mono ?_); rintro e w12 ⟨rfl, hB⟩; (have HL12 := Lib.hid (HL11.out.below hB)); (have RA12 := Lib.hid (RA11.out.later hB)); (have RB12 := Lib.hid (RB11.out.later hB)); (have RM12 := Lib.hid (RM11.out.later hB)); (have HPY := Lib.hid (show prefB M A 0 = true from by rw [← HMJ.out]; exact prefB_take A j HJ.out)); (have k12 := prefix_is _ _ _ _ 0 _ RM12.out.ss RA12.out.ss true HPY); clear hB k11)
        | (go_at_call 36; (with_reducible refine k12.mono ?_); rintro e w13 ⟨rfl, hB⟩; (have HL13 := Lib.hid (HL12.out.below hB)); (have RB13 := Lib.hid (RB12.out.later hB)); (have RM13 := Lib.hid (RM12.out.later hB)); (have k13 : Calls Tryz.prog 23 #[.pointer (some ⟨y, 0, none⟩)] w13 (fun e w' => e = .returned (.int .i64 1) ∧ w13 = w') := (by have h := first_is HL13.out.log.at_; rw [HV9.out.rc.2.1] at h; exact h)); clear hB k12)
        | (go_at_call 23; (with_reducible refine k13.mono ?_); rintro _ w14 ⟨rfl, rfl⟩; (have k15 : Calls Tryz.prog 30 #[.pointer (some ⟨y, 0, none⟩), .slice xb nb cb] w13 (WDone b S9 L9 y W9 v9 (appendW S9 W9 Bs) w13) := (by have h := append_is2 HL13.out.log (HV9.out.fine (by decide) (by rw [HNM.out]; have := HM6.out; omega) (by decide)) (by rw [HV9.out.rc.1]; rw [HNM.out]; have := HM6.out; omega) xb cb Bs (by have := HB6.out; omega) (fun s hs => Nat.le_trans (HBS.out s hs) (by decide)) (fun _ _ _ _ _ k => by have h1 := (RB13.out.went OB9.out k).1.ss; rw [HNB.out]; exact h1); rw [HNB.out] at h; exact h)); (obtain ⟨S15, W15, g15, e15, hv15, -⟩ := HV9.out.app HBS.out HB6.out (by decide)); rw [e15] at k15; (have HV15 := Lib.hid (hv15)); clear e15 hv15; clear k13)
        | (go_at_call 30; (with_reducible refine k15.mono ?_); rintro e w15 ⟨L15, v15, rfl, hW⟩; (have HL15 := Lib.hid (show LAt w w15 b S15 L15 y W15 v15 from HL13.out.next hW)); (obtain ⟨hb, hob⟩ := RB13.out.went OB9.out hW); (have RB15 := Lib.hid (hb)); (have OB15 := Lib.hid (show Off _ b S15 L15 y v15 from hob)); (obtain ⟨hm, hom⟩ := RM13.out.went OM10.out hW); (have RM15 := Lib.hid (hm)); (have OM15 := Lib.hid (show Off _ b S15 L15 y v15 from hom)); clear hm hom; (have k16 := sync_is2 HL15.out.log (HV15.out.fine (by decide) (by rw [List.length_append, HNM.out, HNB.out]; have := HM6.out; have := HBL.out; omega) (by decide)) HV15.out.chg); clear hW hb hob k15)
        | (go_at_call 19; (with_reducible refine k16.mono ?_); rintro e w16 ⟨q4, hq, hWD⟩; (obtain ⟨S16, W16, gs16, g16, e16, hv16, hk16⟩ := HV15.out.sync (by decide) (by rw [List.length_append, HNM.out, HNB.out]; have := HM6.out; have := HBL.out; omega) (by decide) (by decide) (HL15.out.unlike hq)); rw [e16] at hWD; (obtain ⟨L16, v16, rfl, hW⟩ := hWD); (have HL16 := Lib.hid (show LAt w w16 b S16 L16 y W16 v16 from HL15.out.next hW)); (obtain ⟨hb, -⟩ := RB15.out.went OB15.out hW); (have RB16 := Lib.hid (hb)); (obtain ⟨hm, hom⟩ := RM15.out.went OM15.out hW); (have RM16 := Lib.hid (hm)); clear hm hom; (have HV16 := Lib.hid (hv16)); (have HF17 := Lib.hid (hv16.crash hk16 (P))); (obtain ⟨n16, hc16⟩ := hv16.chain); (have HC16 := Lib.hid (hc16)); (have HT16 := Lib.hid (show topN (gs16 ++ [g16]) ≤ 5 by rw [top_snoc]; have := hv16.top; omega)); (have HN16 := Lib.hid (show (gs16 ++ [g16]).length ≤ 5 by rw [List.length_append]; have := hv16.len; show gs16.length + 1 ≤ 5; omega)); (have k17 := crash_dir (.slice a3 n3 c3) (P) HL16.out.d.dir.at_ HL16.out.d.dir.whole (by rw [HV16.out.fold.chg]; exact Nat.zero_le _) (is_on HPI.out HL16.out.d)); clear hq hW hb e16 hv16 hk16 hc16 k16)
        | (go_at_call 35; (with_reducible refine k17.mono ?_); rintro e w17 ⟨L17, rfl, hW, hD⟩; (have HD17 := Lib.hid (HL16.out.d.next hW hD)); (have RB17 := Lib.hid (RB16.out.over HL16.out.d hW.frm)); (have RM17 := Lib.hid (RM16.out.over HL16.out.d hW.frm)); (have k18 := lawOpen_is HD17.out.dir HD17.out.lo HD17.out.bel.size (HD17.out.gl G.out) (by rw [HF17.out.chg]; exact Nat.zero_le _) (fun n => Nat.le_trans (fold_texts HF17.out HV16.out.sum n) (by decide))); clear hW hD k17)
        | (go_at_call 18; (with_reducible refine k18.mono ?_); rintro e w18 ⟨q5, hq, L18, z, v18, hO⟩; (obtain ⟨S18, W18, gs18, g18, e18, hv18, -⟩ := live_open HF17.out HC16.out HV16.out.sum HT16.out HN16.out (by decide) (by rw [List.length_append, HNM.out, HNB.out]; have := HM6.out; have := HBL.out; omega) (by decide) (by decide) (HD17.out.unlike hq)); rw [e18] at hO; (obtain rfl : e = .returned (.pointer (some ⟨z, 0, none⟩)) := hO.ret); (have HL18 := Lib.hid (show LAt w w18 b S18 L18 z W18 v18 from HD17.out.open_ G.out hO)); (have RB18 := Lib.hid (RB17.out.over HD17.out hO.frm)); (have RM18 := Lib.hid (RM17.out.over HD17.out hO.frm)); (have HV18 := Lib.hid (hv18)); (have k19 : Calls Tryz.prog 25 #[.pointer (some ⟨z, 0, none⟩)] w18 (TDone (M ++ Bs) w18) := (by have h := records_is HL18.out.log.at_ (HV18.out.fine (by decide) (by rw [List.length_append, HNM.out, HNB.out]; have := HM6.out; have := HBL.out; omega) (by decide)); rw [HV18.out.rc.1] at h; exact h)); clear hq hO e18 hv18 k18)
        | (go_at_call 25; (with_reducible refine k19.mono ?_); rintro e w19 ⟨uZ, rfl, hR, hB⟩; (have HL19 := Lib.hid (HL18.out.below hB)); (have RB19 := Lib.hid (RB18.out.later hB)); (have RM19 := Lib.hid (RM18.out.later hB)); (obtain ⟨xz, cz, huz, hcz, hz1, hz2, hz3⟩ := cuts (show R0 w19 uZ (M ++ Bs) from row_base hR) HNM.out HNB.out); subst huz; (obtain ⟨zl, hzl⟩ : ∃ zl, ml + nb = zl := ⟨_, rfl⟩); rw [hzl] at hcz hz2 hz3; simp only [hzl]; (have hsw : IntKind.i64.wrap ((ml : Int) + (nb : Int)) = (zl : Int) := by rw [IntKind.wrap_i64]; have := HM6.out; have := HBL.out; omega); (have hmz : (ml : Int) ≤ (cz : Int) := by omega); (have hmz2 : (ml : Int) ≤ (zl : Int) := by omega); (have hmz3 : (zl : Int) ≤ (cz : Int) := by omega); (have hmz4 : ml ≤ cz := by omega); (have hmz5 : ml ≤ zl := by omega); (have HZ1 := Lib.hid (hz1)); (have HZ2 := Lib.hid (hz2)); (have HZ3 := Lib.hid (hz3)); (have HPX := Lib.hid (show prefB M M (ml : Int) = true from by have e := prefB_self M; rw [HNM.out] at e; exact e)); (have HPW := Lib.hid (show prefB Bs Bs (nb : Int) = true from by have e := prefB_self Bs; rw [HNB.out] at e; exact e)); clear hR hB hz1 hz2 hz3 k19)
        | (go_at_call 36; (with_reducible refine (prefix_is _ _ _ _ (ml : Int) _ HZ1.out RM19.out.ss true HPX).mono ?_); rintro e w20 ⟨rfl, hB⟩; (have HL20 := Lib.hid (HL19.out.below hB)); (have RB20 := Lib.hid (RB19.out.later hB)); (have HZ20 := Lib.hid (fun q => (HZ2.out q).below hB)); (have HZ30 := Lib.hid (fun q => (HZ3.out q).below hB)); clear hB)
        | (go_at_call 36; (first | (with_reducible refine (prefix_is _ _ _ _ (nb : Int) _ (HZ20.out (by omega)) RB20.out.ss true HPW).mono ?_) | (with_reducible refine (prefix_is _ _ _ _ (nb : Int) _ (HZ30.out (by omega)) RB20.out.ss true HPW).mono ?_)); rintro e w21 ⟨rfl, hB⟩; (have HL21 := Lib.hid (HL20.out.below hB)); (have k22 : Calls Tryz.prog 24 #[.pointer (some ⟨z, 0, none⟩)] w21 (fun e w' => e = .returned (.string ⟨#[]⟩) ∧ w21 = w') := (by have h := state_is HL21.out.log.at_; rw [HV18.out.rc.2.2] at h; exact h)); clear hB)
        | (go_at_call 24; (with_reducible refine k22.mono ?_); rintro _ w22 ⟨rfl, rfl⟩; clear k22))
      all_goals (go_ret; exact ⟨rfl, HL21.out.bel⟩)
end walAgain
end Go.Proofs.YteijmjbiaffcmaaGreatDoor

/- Proved: for every input that can be read as data, heliograph/heliographlaw11.WalAgain returns true, and each argument reads afterwards as it read before.
   Conditions: the package-level variables heliograph/sum.fourSteps, math/bits.deBruijn32tab, math/bits.deBruijn64tab, internal/strconv.uint64pow10, strconv.ErrRange and strconv.ErrSyntax start as the program's text lays them (the tied card says so of the pruned copy of the project that this seat's roots load; it says nothing of the project's other packages); each string and slice lies within the form's own reach. -/
set_option maxRecDepth 100000
namespace Go.Proofs.YteijmjbiaffcmaaGreatDoor.walAgain
open Go.ChangeShapes Go.WideShapes Go.ChangeAt Go.RowKit Go.Shelf Go.Proofs.YteijmjbiaffcmaaGreatDoor.Crc Go.Proofs.YteijmjbiaffcmaaGreatDoor.Vi Go.Proofs.YteijmjbiaffcmaaGreatDoor.Fr
open Go.ChangeMaps (open_string shut_string)

theorem own : ownKnob Tryz.prog.godebug = none := by kernel_rfl
theorem gTab : Tryz.prog.globalNamed "heliograph/sum.fourSteps" = some 4 := by kernel_rfl
theorem gTabType : (Tryz.prog.globals[4]?).map (·.type) = some 175 := by kernel_rfl
theorem cellsArr : Tryz.prog.cellsOf 175 = 16 := by kernel_rfl
theorem cellsEl : Tryz.prog.cellsOf 105 = 1 := by kernel_rfl
def nums : List Int := [0, 274646895, 549293790, 820201905, 1098587580, 1361435347, 1640403810, 1905808397, 2197175160, 2460548119, 2722870694, 2987750089, 3280807620, 3553878443, 3811616794, 4084100981]

theorem table {W : World} (h : laidMet Tryz.prog Rows.walAgainRow.laid W) : Tab W := by
  have T : Lib.TabIs Tryz.prog W "heliograph/sum.fourSteps" .u32 nums :=
    Lib.tabIs_of_head gTab gTabType Tryz.underlying175 Tryz.underlying105 cellsEl cellsArr h
  intro j hj
  have := T.cell gTab j (by show j < 16; exact hj)
  rw [this, tabv_toNat]
  have : ∀ i : Fin 16, nums.getD i.val 0 = ((tab.getD i.val 0 : Nat) : Int) := by decide +kernel
  rw [this ⟨j, hj⟩]

theorem gP10 : Tryz.prog.globalNamed "internal/strconv.uint64pow10" = some 2 := by kernel_rfl
theorem gP10Type : (Tryz.prog.globals[2]?).map (·.type) = some 173 := by kernel_rfl
theorem cells20 : Tryz.prog.cellsOf 173 = 20 := by kernel_rfl
theorem cells64 : Tryz.prog.cellsOf 73 = 1 := by kernel_rfl
theorem gES : Tryz.prog.globalNamed "strconv.ErrSyntax" = some 0 := by kernel_rfl
theorem gESType : (Tryz.prog.globals[0]?).map (·.type) = some 66 := by kernel_rfl
theorem gER : Tryz.prog.globalNamed "strconv.ErrRange" = some 1 := by kernel_rfl
theorem gERType : (Tryz.prog.globals[1]?).map (·.type) = some 66 := by kernel_rfl
theorem cellsE : Tryz.prog.cellsOf 171 = 1 := by kernel_rfl
theorem cellsS : Tryz.prog.cellsOf 9 = 1 := by kernel_rfl
theorem star : "*" ++ "errors.errorString" = "*errors.errorString" := by decide
theorem rowE (u : TypeId) (h : Tryz.prog.typeName? 3 u = some "*errors.errorString") : u = 169 :=
  typeName_ptr_named (nm := "errors.errorString") (by rw [star]; kernel_rfl) (by kernel_rfl) (by decide) u (by rw [star]; exact h)
def p10s : List Int := [1, 10, 100, 1000, 10000, 100000, 1000000, 10000000, 100000000, 1000000000, 10000000000, 100000000000, 1000000000000, 10000000000000, 100000000000000, 1000000000000000, 10000000000000000, 100000000000000000, 1000000000000000000, 10000000000000000000]
theorem p10_is : Lib.pow10Tab = p10s := by decide +kernel
theorem glob {W : World} (h0 : laidMetH Tryz.prog Rows.walAgainRow.laid W) : Glob W := by
  have h : laidMet Tryz.prog Rows.walAgainRow.laid W := h0
  obtain ⟨a0, s0, hv0, -, -, -⟩ := laid_sentinel h.tail.tail.tail.tail gER gERType Tryz.underlying66 rowE Tryz.underlying169 Tryz.underlying171 rfl rfl Tryz.underlying9 cellsE cellsS
  obtain ⟨a1, s1, hv1, -, -, -⟩ := laid_sentinel h.tail.tail.tail.tail.tail gES gESType Tryz.underlying66 rowE Tryz.underlying169 Tryz.underlying171 rfl rfl Tryz.underlying9 cellsE cellsS
  refine ⟨table h, ?_, ⟨_, _, by have h0 := World.var?_cell gES hv1 0; simpa using h0⟩, ⟨_, _, by have h0 := World.var?_cell gER hv0 0; simpa using h0⟩⟩
  rw [p10_is]
  exact Lib.tabIs_of_head gP10 gP10Type Tryz.underlying173 Tryz.underlying73 cells64 cells20 h.tail.tail.tail
theorem laidOut : laidOutB Tryz.prog = true := by kernel_rfl
theorem contract (H : Type) (enc : TypeId × Value → H) (W : World) (base : Nat) (args : Array Value) (ds gs : List (DataW H)) (before : List MemPlace)
    (hval : ∀ (j : Nat) t v, Tryz.f8.params[j]? = some t → args[j]? = some v → Value.okWide Tryz.prog W .any base t v)
    (hW : DataW.Whole enc Tryz.prog Tryz.f8.params.toList Rows.walAgainSpec.vars false W args.toList ds gs before) (hL : laidMetH Tryz.prog Rows.walAgainRow.laid W) :
    Calls Tryz.prog 8 args W fun e W' => ∃ v, e = .returned v ∧ Rows.walAgainSpec.post enc Tryz.prog Tryz.f8 false true false false W args v W' := by
  have hW' := hW
  obtain ⟨p, q, hA0, hV, rfl, hfz, hnd⟩ := hW
  have hA : DataW.TrodAll enc Tryz.prog W 0 (fun _ => true) true Tryz.f8.params.toList args.toList ds p := hA0
  rw [Tryz.params8] at hA hval
  obtain ⟨v0, vs0, d0, ds0, p0, q0, hargs, rfl, rfl, h0, r0⟩ := trodAll_cons hA
  obtain ⟨v1, vs1, d1, ds1, p1, q1, rfl, rfl, rfl, h1, r1⟩ := trodAll_cons r0
  obtain ⟨v2, vs2, d2, ds2, p2, q2, rfl, rfl, rfl, h2, r2⟩ := trodAll_cons r1
  obtain ⟨rfl, rfl, rfl⟩ := trodAll_nil r2
  obtain rfl : args = #[v0, v1, v2] := by cases args; simp_all
  obtain ⟨rfl, rfl⟩ := trodVars_none hV
  obtain ⟨a0, len0, cap0, rfl⟩ := okWide_slice Tryz.underlying34 (hval 0 34 v0 rfl rfl)
  have k0 := h0
  have lt0 : ∀ x ∈ p0, x.block < W.heap.size := by obtain ⟨m, hm⟩ := k0; exact DataW.trod_lt m _ _ _ hm
  obtain ⟨fuel0, hf0⟩ := h0
  have w0 := argStrs_of Tryz.underlying34 Tryz.underlying9 (by kernel_rfl) hf0
  obtain ⟨a1, len1, cap1, rfl⟩ := okWide_slice Tryz.underlying34 (hval 1 34 v1 rfl rfl)
  have k1 := h1
  have lt1 : ∀ x ∈ p1, x.block < W.heap.size := by obtain ⟨m, hm⟩ := k1; exact DataW.trod_lt m _ _ _ hm
  obtain ⟨fuel1, hf1⟩ := h1
  have w1 := argStrs_of Tryz.underlying34 Tryz.underlying9 (by kernel_rfl) hf1
  obtain ⟨a2, len2, cap2, rfl⟩ := okWide_slice Tryz.underlying38 (hval 2 38 v2 rfl rfl)
  have k2 := h2
  have lt2 : ∀ x ∈ p2, x.block < W.heap.size := by obtain ⟨m, hm⟩ := k2; exact DataW.trod_lt m _ _ _ hm
  obtain ⟨fuel2, hf2⟩ := h2
  have w2 := argInts_of Tryz.underlying38 Tryz.underlying3 (by kernel_rfl) hf2
  clear hA0
  simp only [List.append_nil] at hW'
  refine (walk a0 len0 cap0 a1 len1 cap1 a2 len2 cap2 W w0 w1 w2 (glob hL)).mono fun e W' ⟨he, bel⟩ => ?_
  subst he
  exact ⟨_, rfl, _, _, _, [], _, [], hW', trodAll_mk1 (shut_bool Tryz.underlying4 _), (trodAll_cons_mk (Below.trod laidOut (by kernel_rfl) (of_decide_eq_true (by kernel_rfl)) k0 bel lt0) (trodAll_cons_mk (Below.trod laidOut (by kernel_rfl) (of_decide_eq_true (by kernel_rfl)) k1 bel lt1) (trodAll_cons_mk (Below.trod laidOut (by kernel_rfl) (of_decide_eq_true (by kernel_rfl)) k2 bel lt2) trodAll_mk0))), rfl, bel.frame _, fun h => by cases h⟩

abbrev synS : ByteArray := { data := #[105, 110, 118, 97, 108, 105, 100, 32, 115, 121, 110, 116, 97, 120] }
abbrev rngS : ByteArray := { data := #[118, 97, 108, 117, 101, 32, 111, 117, 116, 32, 111, 102, 32, 114, 97, 110, 103, 101] }
/-- So many blocks has the settled world. -/
noncomputable def lowE : Nat := (World.holding Tryz.prog default ⟨#[], #[], []⟩).heap.size
set_option maxRecDepth 100000 in
/-- A world for the witness: the listed variables hold what their initialisers lay; two blocks more for the two errors. -/
noncomputable def laidWorld (os : Os) : World :=
  let w0 := World.holding Tryz.prog os ⟨#[.cells #[.string rngS] 171, .cells #[.string synS] 171], #[], []⟩
  { w0 with heap := ((((((w0.heap.modify 4 fun
      | .cells _ t frozen => .cells ((nums.map fun z => Value.int .u32 z).toArray) t frozen
      | o => o).modify 5 fun
      | .cells _ t frozen => .cells #[.int .u8 0, .int .u8 1, .int .u8 28, .int .u8 2, .int .u8 29, .int .u8 14, .int .u8 24, .int .u8 3, .int .u8 30, .int .u8 22, .int .u8 20, .int .u8 15, .int .u8 25, .int .u8 17, .int .u8 4, .int .u8 8, .int .u8 31, .int .u8 27, .int .u8 13, .int .u8 23, .int .u8 21, .int .u8 19, .int .u8 16, .int .u8 7, .int .u8 26, .int .u8 12, .int .u8 18, .int .u8 6, .int .u8 11, .int .u8 5, .int .u8 10, .int .u8 9] t frozen
      | o => o).modify 6 fun
      | .cells _ t frozen => .cells #[.int .u8 0, .int .u8 1, .int .u8 56, .int .u8 2, .int .u8 57, .int .u8 49, .int .u8 28, .int .u8 3, .int .u8 61, .int .u8 58, .int .u8 42, .int .u8 50, .int .u8 38, .int .u8 29, .int .u8 17, .int .u8 4, .int .u8 62, .int .u8 47, .int .u8 59, .int .u8 36, .int .u8 45, .int .u8 43, .int .u8 51, .int .u8 22, .int .u8 53, .int .u8 39, .int .u8 33, .int .u8 30, .int .u8 24, .int .u8 18, .int .u8 12, .int .u8 5, .int .u8 63, .int .u8 55, .int .u8 48, .int .u8 27, .int .u8 60, .int .u8 41, .int .u8 37, .int .u8 16, .int .u8 46, .int .u8 35, .int .u8 44, .int .u8 21, .int .u8 52, .int .u8 32, .int .u8 23, .int .u8 11, .int .u8 54, .int .u8 26, .int .u8 40, .int .u8 15, .int .u8 34, .int .u8 20, .int .u8 31, .int .u8 10, .int .u8 25, .int .u8 14, .int .u8 19, .int .u8 9, .int .u8 13, .int .u8 8, .int .u8 7, .int .u8 6] t frozen
      | o => o).modify 2 fun
      | .cells _ t frozen => .cells #[.int .u64 1, .int .u64 10, .int .u64 100, .int .u64 1000, .int .u64 10000, .int .u64 100000, .int .u64 1000000, .int .u64 10000000, .int .u64 100000000, .int .u64 1000000000, .int .u64 10000000000, .int .u64 100000000000, .int .u64 1000000000000, .int .u64 10000000000000, .int .u64 100000000000000, .int .u64 1000000000000000, .int .u64 10000000000000000, .int .u64 100000000000000000, .int .u64 1000000000000000000, .int .u64 10000000000000000000] t frozen
      | o => o).modify 1 fun
      | .cells _ t frozen => .cells #[.iface 169 (.pointer (some ⟨lowE, 0, none⟩))] t frozen
      | o => o).modify 0 fun
      | .cells _ t frozen => .cells #[.iface 169 (.pointer (some ⟨lowE + 1, 0, none⟩))] t frozen
      | o => o) }
theorem laid_met (os : Os) : laidMet Tryz.prog Rows.walAgainRow.laid ((laidWorld os).forCall (fun _ _ => 0) ⟨#[], #[.slice none 0 0, .slice none 0 0, .slice none 0 0], []⟩).memory :=
  laidMet_of_run' 8 (by kernel_rfl) (by kernel_rfl)
theorem reads (os : Os) {H : Type} (enc : TypeId × Value → H) : ∃ places, DataW.whole enc Tryz.prog ((laidWorld os).forCall (fun _ _ => 0) ⟨#[], #[.slice none 0 0, .slice none 0 0, .slice none 0 0], []⟩).memory Tryz.f8.params.toList Rows.walAgainSpec.vars false (#[.slice none 0 0, .slice none 0 0, .slice none 0 0] : Array Value).toList 8 = some ([.nil, .nil, .nil], [], places) :=
  ⟨[], by kernel_rfl⟩

set_option maxRecDepth 100000 in
theorem lifted (os : Os) (started : os.Started) (H : Type) (enc : TypeId × Value → H) (F : Stop.Interp) :
    ReturnsInHanded {} Tryz.checked os 8 .any ((OpenSpec.ofChange Rows.walAgainSpec).preRow enc Tryz.prog Tryz.f8 Rows.walAgainRow.domain false Rows.walAgainRow.laid) (((OpenSpec.ofChange Rows.walAgainSpec).at F).post enc Tryz.prog Tryz.f8 false true false false) := by
  obtain ⟨places, hx⟩ := reads os enc
  refine returnsInHanded_of_row (C := Tryz.checked) (s := OpenSpec.ofChange Rows.walAgainSpec) own started (by kernel_rfl) Tryz.func8
    (witness_row_at (enc := enc) (C := Tryz.checked) false (laidWorld os) #[.slice none 0 0, .slice none 0 0, .slice none 0 0] rfl (by kernel_rfl) (by kernel_rfl) (by kernel_rfl)
      (OpenSpec.preRow_of_cond 8 hx (by kernel_rfl) (fun k hk => by cases hk) (by kernel_rfl) (laid_met os))) ?_
  intro W base args ds gs before hval hW _ _ _ hL _ _
  exact contract H enc W base args ds gs before hval hW hL

theorem said : Rows.WalAgainSaid :=
  OpenClaim.holds_of_cond 8 Tryz.f8 rfl rfl rfl rfl rfl rfl rfl ⟨rfl, rfl, rfl, rfl, rfl⟩ rfl rfl rfl rfl rfl (by kernel_rfl) Tryz.func8 (by kernel_rfl)
    (of_decide_eq_true (by kernel_rfl)) (by unfold Func.isWrapper; first | (rw [if_pos (by decide +kernel)]; kernel_rfl) | (rw [if_neg (by decide +kernel)]; exact ⟨rfl, rfl⟩))
    (fun os started H enc _ F => by rw [OpenClaim.pre_eq_preRow]; exact lifted os started H enc F)

/-- No parameter wants a stand-in; the program's own looks are off. -/
theorem plain (f : FuncId) (fn : Func) (hf : Tryz.pinned.checked.prog.funcNamed "heliograph/heliographlaw11.WalAgain" = some f) (hfn : Tryz.pinned.checked.prog.funcs[f]? = some fn) :
    true = Tryz.pinned.checked.prog.looks [] ∧ ∀ (j : Nat) t, fn.params[j]? = some t → Tryz.pinned.checked.prog.wantsStandIn t = false := by
  obtain rfl : f = 8 := Option.some.inj ((show Tryz.prog.funcNamed "heliograph/heliographlaw11.WalAgain" = some 8 by kernel_rfl).symm.trans hf) |>.symm
  obtain rfl : fn = Tryz.f8 := (Option.some.inj (Tryz.func8.symm.trans hfn)).symm
  refine ⟨by kernel_rfl, fun j t ht => ?_⟩
  rw [Tryz.params8] at ht
  have hm : t ∈ [34, 34, 38] := by simpa using Array.mem_of_getElem? ht
  have hall : ([34, 34, 38].all fun u => !Tryz.prog.wantsStandIn u) = true := by kernel_rfl
  exact (show Tryz.prog.wantsStandIn t = false by simpa using List.all_eq_true.1 hall t hm)

/-- The tied card of WalAgain: for every input the law returns true, and each argument reads afterwards as before. -/
theorem card : Rows.WalAgainCardSaid :=
  Claim7.holds_tied_plain_at .later [] _ _ _ _ said (fun _ h => by cases h) (by kernel_rfl) (fun _ h => by cases h) walAgain_row_tie rfl ⟨rfl, rfl⟩ (by kernel_rfl) rfl plain (by kernel_rfl)
end Go.Proofs.YteijmjbiaffcmaaGreatDoor.walAgain

/- HintHands: what is kept after the adds, and what is handed on. -/
import Derived.Test.YtolmhlfegllfoaaHintDropsAt
set_option maxRecDepth 20000
set_option linter.unusedSimpArgs false
set_option linter.unusedVariables false
namespace Go.Proofs.Ytolmhlfegllfoaa.Qu.Hi
open Go.RowKit Go.Maps Go.Proofs.Ytolmhlfegllfoaa.Vi Go.Proofs.Ytolmhlfegllfoaa.Mk

theorem of_app (L M : List Hk) (n : Int) : ofL (L ++ M) n = ofL L n ++ ofL M n := by unfold ofL; rw [List.filter_append, List.map_append]
theorem of_mem {L : List Hk} {n : Int} {p : Pt} : p ∈ ofL L n ↔ (⟨p, n⟩ : Hk) ∈ L := by
  unfold ofL
  rw [List.mem_map]
  constructor
  · rintro ⟨x, hx, rfl⟩
    obtain ⟨h1, h2⟩ := List.mem_filter.1 hx
    rw [decide_eq_true_eq] at h2
    subst h2
    exact h1
  · intro h
    exact ⟨⟨p, n⟩, List.mem_filter.2 ⟨h, by simp⟩, rfl⟩
theorem one_of {A : List Int} {n : Int} (hA : A.Nodup) (hn : n ∈ A) : A.filter (fun x => decide (x = n)) = [n] := by
  induction A with
  | nil => cases hn
  | cons a A ih =>
    obtain ⟨h1, h2⟩ := List.nodup_cons.1 hA
    by_cases e : a = n
    · subst e
      rw [List.filter_cons_of_pos (by simp)]
      congr 1
      exact List.filter_eq_nil_iff.2 fun x hx => by
        rw [decide_eq_true_eq]
        rintro rfl
        exact h1 hx
    · rw [List.filter_cons_of_neg (by simpa using e)]
      exact ih h2 ((List.mem_cons.1 hn).resolve_left fun k => e k.symm)
theorem of_map {A : List Int} {n : Int} (p : Pt) (hA : A.Nodup) (hn : n ∈ A) : ofL (A.map fun n => (⟨p, n⟩ : Hk)) n = [p] := by
  unfold ofL
  rw [List.filter_map, List.map_map]
  have : (A.filter ((fun x : Hk => decide (x.n = n)) ∘ fun n => (⟨p, n⟩ : Hk))) = [n] := (show _ = A.filter (fun x => decide (x = n)) from rfl).trans (one_of hA hn)
  rw [this]
  rfl
structure AddI (ns AL : List Int) (K : List Pt) (L : List Hk) : Prop where
  al : nodesL ns = AL
  of_ : ∀ n ∈ AL, ofL L n = K
  nd : ∀ x ∈ L, x.n ∈ AL
  ln : L.length = K.length * AL.length
theorem AddI.nil (ns : List Int) : AddI ns (nodesL ns) [] [] := ⟨rfl, fun n _ => rfl, (fun x hx => by cases hx), by simp⟩
theorem AddI.had {ns AL : List Int} {K : List Pt} {L : List Hk} (h : AddI ns AL K L) {p : Pt} (hp : p ∈ K) : freshL L p ns = [] := by
  refine List.eq_nil_iff_forall_not_mem.2 fun x hx => ?_
  obtain ⟨rfl, h1, h2, h3⟩ := fresh_mem.1 hx
  have hn : x.n ∈ AL := by rw [← h.al]; exact nodes_mem.2 ⟨h1, h2⟩
  rw [← h.of_ _ hn] at hp
  exact h3 (of_mem.1 hp)
theorem AddI.new {ns AL : List Int} {K : List Pt} {L : List Hk} (h : AddI ns AL K L) {p : Pt} (hp : p ∉ K) : freshL L p ns = AL.map fun n => (⟨p, n⟩ : Hk) := by
  rw [← h.al, show nodesL ns = pick (inL ns) from rfl]
  unfold freshL
  congr 1
  refine pick_congr fun n h1 h2 => ?_
  unfold newB
  cases hi : inL ns n with
  | false => rfl
  | true =>
    have hn : n ∈ AL := by rw [← h.al, show nodesL ns = pick (inL ns) from rfl]; exact pick_mem.2 ⟨⟨h1, h2⟩, hi⟩
    have : hasB L ⟨p, n⟩ = false := by
      unfold hasB
      exact decide_eq_false fun k => hp (by rw [← h.of_ _ hn]; exact of_mem.2 k)
    rw [this]
    rfl
theorem AddI.ok {ns AL : List Int} {K : List Pt} {L : List Hk} (h : AddI ns AL K L) {p : Pt} (hK : K.length ≤ 29) (hA : AL.length ≤ 16) : addOk L 600 p ns = decide (p.err = 0) := by
  unfold addOk
  have h1 : L.length ≤ 29 * 16 := by rw [h.ln]; exact Nat.mul_le_mul hK hA
  have h2 : (freshL L p ns).length ≤ 16 := fresh_len _ _ _
  rw [show decide (((L.length + (freshL L p ns).length : Nat) : Int) ≤ 600) = true from decide_eq_true (by omega), Bool.and_true]
theorem AddI.add {ns AL : List Int} {K : List Pt} {L : List Hk} (h : AddI ns AL K L) (hA : AL.Nodup) {p : Pt} (hp : p ∉ K) : AddI ns AL (K ++ [p]) (L ++ freshL L p ns) := by
  rw [h.new hp]
  refine ⟨h.al, fun n hn => ?_, fun x hx => ?_, ?_⟩
  · rw [of_app, h.of_ n hn, of_map p hA hn]
  · rcases List.mem_append.1 hx with hx | hx
    · exact h.nd x hx
    · obtain ⟨n, hn, rfl⟩ := List.mem_map.1 hx
      exact hn
  · rw [List.length_append, List.length_append, List.length_map, h.ln, Nat.add_mul]; simp
/-- What the law's add leaves. -/
theorem AddI.next {ns AL : List Int} {K : List Pt} {L : List Hk} (h : AddI ns AL K L) (hA : AL.Nodup) {p : Pt} (hK : K.length ≤ 29) (hl : AL.length ≤ 16) : AddI ns AL (if p.err = 0 ∧ p ∉ K then K ++ [p] else K) (addL L 600 p ns) := by
  unfold addL
  rw [h.ok hK hl]
  by_cases he : p.err = 0
  · rw [decide_eq_true he, if_pos rfl]
    by_cases hp : p ∈ K
    · rw [if_neg (fun k => k.2 hp), h.had hp, List.append_nil]
      exact h
    · rw [if_pos ⟨he, hp⟩]
      exact h.add hA hp
  · rw [decide_eq_false he, if_neg (fun k : p.err = 0 ∧ p ∉ K => he k.1)]
    exact h
theorem of_nodup {L : List Hk} (h : Good L) (n : Int) : (ofL L n).Nodup := by
  unfold ofL
  have h1 := h.nodup.filter fun x => decide (x.n = n)
  refine List.pairwise_map.2 (h1.imp_of_mem fun {a b} ha hb hab e => hab ?_)
  have ha := (List.mem_filter.1 ha).2
  have hb := (List.mem_filter.1 hb).2
  rw [decide_eq_true_eq] at ha hb
  exact Hk.ext' e (ha.trans hb.symm)
theorem ack_same (L : List Hk) (n : Int) (F : List Pt) : ofL (ackL L n F) n = (ofL L n).filter fun p => !decide (p ∈ F) := by
  unfold ofL ackL
  induction L with
  | nil => rfl
  | cons x L ih => by_cases h1 : x.n = n <;> by_cases h2 : x.p ∈ F <;> simp [List.filter_cons, h1, h2] at ih ⊢ <;> exact ih
theorem ack_other (L : List Hk) {n m : Int} (F : List Pt) (h : m ≠ n) : ofL (ackL L n F) m = ofL L m := by
  unfold ofL ackL
  rw [List.filter_filter]
  congr 1
  refine List.filter_congr fun x _ => ?_
  by_cases e : x.n = m
  · have : x.n ≠ n := fun k => h (e.symm.trans k)
    simp [e, h]
  · simp [e]
theorem ack_rest (L : List Hk) (n : Int) (F : List Pt) : (ackL L n F).filter (fun x => !decide (x.n = n)) = L.filter fun x => !decide (x.n = n) := by
  unfold ackL
  rw [List.filter_filter]
  refine List.filter_congr fun x _ => ?_
  by_cases e : x.n = n <;> simp [e]
theorem ack_twice (L : List Hk) (n : Int) (F : List Pt) : ackL (ackL L n F) n F = ackL L n F := by unfold ackL; rw [List.filter_filter]; simp
theorem cnt_of (L : List Hk) (n : Int) : L.length = (ofL L n).length + (L.filter fun x => !decide (x.n = n)).length := by
  unfold ofL
  induction L with
  | nil => rfl
  | cons x L ih => by_cases e : x.n = n <;> simp [List.filter_cons, e] at ih ⊢ <;> omega
theorem gone_take {X : List Pt} (h : X.Nodup) (k : Nat) : (X.filter fun p => !decide (p ∈ (srtO X).take k)).length + ((srtO X).take k).length = X.length := by
  have hn : (srtO X).Nodup := (srtO_perm X).nodup_iff.2 h
  rw [← ((srtO_perm X).filter _).length_eq, ← srtO_len X]
  obtain ⟨S, hS⟩ : ∃ S, srtO X = S := ⟨_, rfl⟩
  rw [hS] at hn ⊢
  clear hS h
  have hd : List.Nodup (S.take k ++ S.drop k) := by rw [List.take_append_drop]; exact hn
  obtain ⟨-, -, h3⟩ := List.nodup_append.1 hd
  have e : S.filter (fun p => !decide (p ∈ S.take k)) = S.drop k := by
    have e1 : S.filter (fun p => !decide (p ∈ S.take k)) = (S.take k ++ S.drop k).filter (fun p => !decide (p ∈ S.take k)) := by rw [List.take_append_drop]
    rw [e1, List.filter_append, List.filter_eq_nil_iff.2 (fun x hx => by simp [hx]), List.nil_append]
    exact List.filter_eq_self.2 fun x hx => by
      have : x ∉ S.take k := fun hx2 => h3 x hx2 x hx rfl
      simp [this]
  rw [e, List.length_take, List.length_drop]
  omega
theorem left_len {L : List Hk} (h : Good L) (n most : Int) : (ofL (ackL L n (forL L n most)) n).length + (forL L n most).length = (ofL L n).length := by
  rw [ack_same]
  exact gone_take (of_nodup h n) most.toNat
theorem ack_count {L : List Hk} (h : Good L) (n most : Int) : (ackL L n (forL L n most)).length + (forL L n most).length = L.length := by
  have h1 := cnt_of L n
  have h2 := cnt_of (ackL L n (forL L n most)) n
  rw [ack_rest] at h2
  have h3 := left_len h n most
  omega
theorem for_mem {L : List Hk} {n most : Int} {p : Pt} (h : p ∈ forL L n most) : p ∈ ofL L n := (srtO_perm _).mem_iff.1 (List.mem_of_mem_take h)
theorem for_none {L : List Hk} {n most : Int} (hm : 1 ≤ most) (h : (forL L n most).length = 0) : ofL L n = [] := by
  unfold forL at h
  rw [List.length_take, srtO_len] at h
  exact List.eq_nil_of_length_eq_zero (by omega)
theorem for_most (L : List Hk) (n most : Int) : (forL L n most).length ≤ most.toNat := by unfold forL; rw [List.length_take]; omega
structure OutI (AL : List Int) (K : List Pt) (L : List Hk) (i : Nat) : Prop where
  nd : ∀ x ∈ L, x.n ∈ AL.drop i
  of_ : ∀ n ∈ AL.drop i, ofL L n = K
structure TurnI (AL : List Int) (K : List Pt) (L : List Hk) (i : Nat) (n : Int) (told : Nat) : Prop where
  nd : ∀ x ∈ L, x.n ∈ AL.drop i
  of_ : ∀ m ∈ AL.drop (i + 1), ofL L m = K
  ln : (ofL L n).length + told = K.length
  sub : ∀ p ∈ ofL L n, p ∈ K
theorem AddI.out {ns AL : List Int} {K : List Pt} {L : List Hk} (h : AddI ns AL K L) : OutI AL K L 0 := ⟨h.nd, h.of_⟩
theorem OutI.turn {AL : List Int} {K : List Pt} {L : List Hk} {i : Nat} (h : OutI AL K L i) (hi : i < AL.length) {n : Int} (hn : AL[i] = n) : TurnI AL K L i n 0 := by
  have e : AL.drop i = n :: AL.drop (i + 1) := by rw [← hn]; exact List.drop_eq_getElem_cons hi
  have e1 : ofL L n = K := h.of_ n (by rw [e]; simp)
  exact ⟨h.nd, fun m hm => h.of_ m (by rw [e]; exact List.mem_cons_of_mem _ hm), by rw [e1]; rfl, fun p hp => by rw [e1] at hp; exact hp⟩
theorem TurnI.ack {AL : List Int} {K : List Pt} {L : List Hk} {i told : Nat} {n most : Int} (h : TurnI AL K L i n told) (hA : AL.Nodup) (hi : i < AL.length) (hn : AL[i] = n) (hG : Good L) : TurnI AL K (ackL L n (forL L n most)) i n (told + (forL L n most).length) := by
  have e : AL.drop i = n :: AL.drop (i + 1) := by rw [← hn]; exact List.drop_eq_getElem_cons hi
  have hd : (AL.drop i).Nodup := List.Pairwise.sublist (List.drop_sublist _ _) hA
  rw [e] at hd
  have hni := (List.nodup_cons.1 hd).1
  refine ⟨fun x hx => h.nd x (List.mem_filter.1 hx).1, fun m hm => ?_, ?_, fun p hp => ?_⟩
  · rw [ack_other L _ (fun k => hni (by rw [← k]; exact hm))]
    exact h.of_ m hm
  · have h1 := left_len hG n most
    have h2 := h.ln
    omega
  · rw [ack_same] at hp
    exact h.sub p (List.mem_filter.1 hp).1
theorem TurnI.end_ {AL : List Int} {K : List Pt} {L : List Hk} {i told : Nat} {n : Int} (h : TurnI AL K L i n told) (hi : i < AL.length) (hn : AL[i] = n) (h0 : ofL L n = []) : OutI AL K L (i + 1) ∧ told = K.length := by
  have e : AL.drop i = n :: AL.drop (i + 1) := by rw [← hn]; exact List.drop_eq_getElem_cons hi
  refine ⟨⟨fun x hx => ?_, h.of_⟩, ?_⟩
  · have h1 := h.nd x hx
    rw [e] at h1
    rcases List.mem_cons.1 h1 with h1 | h1
    · have : x.p ∈ ofL L n := of_mem.2 (by rw [← h1]; exact hx)
      rw [h0] at this
      cases this
    · exact h1
  · have := h.ln
    rw [h0] at this
    simpa using this
theorem OutI.none_ {AL : List Int} {K : List Pt} {L : List Hk} {i : Nat} (h : OutI AL K L i) (hi : AL.length ≤ i) : L = [] := by
  refine List.eq_nil_iff_forall_not_mem.2 fun x hx => ?_
  have h1 := h.nd x hx
  rw [List.drop_eq_nil_of_le hi] at h1
  cases h1
/-- What the law carries on. -/
structure HaS (w X : World) (B b mm : Nat) (AL : List Int) (va v : Value) (K : List Pt) (L : List Hk) : Prop where
  at_ : HiAt X B b (some mm) 600 L
  bel : Below w.heap.size w X
  all : IRow X w.heap.size va AL
  kept : PRow X w.heap.size v K
theorem HaS.later {w X X' : World} {B b mm : Nat} {AL : List Int} {va v : Value} {K : List Pt} {L : List Hk} (h : HaS w X B b mm AL va v K L) (k : Below X.heap.size X X') : HaS w X' B b mm AL va v K L :=
  ⟨h.at_.later k, bel_next h.bel k, h.all.later k, h.kept.later k⟩
theorem HaS.map {w X X' : World} {B b mm : Nat} {AL : List Int} {va v : Value} {K : List Pt} {L L' : List Hk} (h : HaS w X B b mm AL va v K L) (hB : w.heap.size ≤ B) (h1 : HiAt X' B b (some mm) 600 L') (h2 : X.grownBy X' (some mm)) : HaS w X' B b mm AL va v K L' :=
  ⟨h1, h.bel.grown h2 h.bel.size fun g hg => by rw [← Option.some.inj hg]; exact Nat.le_trans hB (h.at_.some_ mm rfl).1, irow_map h.all h.at_ h2, prow_map h.kept h.at_ h2⟩
theorem HaS.app {w X X' : World} {B b mm : Nat} {AL : List Int} {va v v' : Value} {K K' : List Pt} {L : List Hk} (h : HaS w X B b mm AL va v K L) (h1 : PRow X' w.heap.size v' K') (h2 : X.grownBy X' v.ownBlock) : HaS w X' B b mm AL va v' K' L := by
  have hne : ∀ g, v.ownBlock = some g → w.heap.size ≤ g := fun g hg => (World.ownsRow.lt h.kept g hg).1
  refine ⟨h.at_.other (h2.block b h.at_.lt fun e => ?_) fun m e => h2.block m (by rw [← Option.some.inj e]; exact h.at_.mlt) fun e3 => ?_, h.bel.grown h2 h.bel.size hne, own_kept h.all h2 fun hn e => ?_, h1⟩
  · obtain ⟨cur, e2⟩ := prow_own h.kept e.symm
    exact (h.at_.off (T := 31) (by decide) e2).1 rfl
  · obtain ⟨cur, e2⟩ := prow_own h.kept e3.symm
    exact (h.at_.off (T := 31) (by decide) e2).2 e.symm
  · obtain ⟨g, hg⟩ : ∃ g, va.ownBlock = some g := by cases hv : va.ownBlock with | none => exact absurd hv hn | some g => exact ⟨g, rfl⟩
    obtain ⟨c1, e1⟩ := irow_own h.all hg
    obtain ⟨c2, e2⟩ := prow_own h.kept (e.symm.trans hg)
    rw [e1] at e2
    injection e2 with e2
    injection e2 with _ e2
    exact absurd e2 (by decide)
theorem tm10 (n : Int) : ∃ (q : Int) (k : Nat), n.tmod 10 = q ∧ k ≤ 9 ∧ ((q < 0 ∧ IntKind.i64.wrap (-q) = (k : Int)) ∨ (¬ q < 0 ∧ q = (k : Int))) := by
  have h1 := Int.tmod_lt_of_pos n (show (0 : Int) < 10 by decide)
  have h2 := Int.lt_tmod_of_pos n (show (0 : Int) < 10 by decide)
  by_cases h : n.tmod 10 < 0
  · exact ⟨_, (-(n.tmod 10)).toNat, rfl, by omega, Or.inl ⟨h, by rw [IntKind.wrap_i64]; omega⟩⟩
  · exact ⟨_, (n.tmod 10).toNat, rfl, by omega, Or.inr ⟨h, by omega⟩⟩
theorem nodesH_nil : nodesH [] = [] := by decide
end Go.Proofs.Ytolmhlfegllfoaa.Qu.Hi

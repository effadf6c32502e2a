import PyProof.Rows.All
import Wide.All
import OpenK.AllK
import Wide.FinOn
import HandS.Base
import HandS.Call
import HandS.List
import HandS.Comp
import HandS.Ends
import HandS.Iter
import HandS.NoneIn
import HandS.SetFor
import HandS.TupAny
import HandS.IsInst
import HandS.Zip
import HandS.Words
import HandS.Defaults
import HandS.Wide
import HandS.Codes
import HandS.Conv
import HandS.Deep
import PyProof.CallFns
import PySem.Challenge.RW_mergelevels_k65_nested_tables_counted
set_option Elab.async false
set_option linter.all false
set_option maxRecDepth 100000
set_option maxHeartbeats 4000000
namespace Ml
open PySem PySem.Spec PyProof.Rows L2
/-! ### heaps -/
def Sm (H H' : Hp) : Prop := ∀ b o, H b = some o → H' b = some o
theorem Sm.refl (H : Hp) : Sm H H := fun _ _ h => h
theorem Sm.trans {H H1 H2 : Hp} (a : Sm H H1) (b : Sm H1 H2) : Sm H H2 := fun c o h => b c o (a c o h)
theorem Sm.new {H : Hp} {p : Addr} {o : HO} (h : H p = none) : Sm H (upd H p o) := fun b x e => by
  rw [upd_ne (ne_of_none e h)]
  exact e
theorem Sm.free {H H' : Hp} (e : Sm H H') {l : Addr} (h : H' l = none) : H l = none := by
  cases q : H l with
  | none => rfl
  | some o => rw [e l o q] at h; cases h
theorem Sm.rd {H H' : Hp} {a : Addr} {u : HO} (e : Sm H H') (h : Rd H a u) : Rd H' a u := by
  rcases h with h | ⟨o, h⟩
  · exact .inl (e _ _ h)
  · exact .inr ⟨o, e _ _ h⟩
theorem Sm.sqL {K : PySem.W.Frag} {H H' : Hp} {a : Addr} {xs : List V} (e : Sm H H') (h : SqL K H a xs) : SqL K H' a xs := by
  rcases h with h | h
  · exact .inl (e.rd h)
  · exact .inr h
theorem Sm.sqT {K : PySem.W.Frag} {H H' : Hp} {a : Addr} {xs : List V} (e : Sm H H') (h : SqT K H a xs) : SqT K H' a xs := by
  rcases h with h | h
  · exact .inl (e.rd h)
  · exact .inr h
/-- all but the two places of a drawing stays -/
def Kp (d r : Addr) (H H' : Hp) : Prop := ∀ b o, H b = some o → b ≠ d → b ≠ r → H' b = some o
theorem Kp.refl (d r : Addr) (H : Hp) : Kp d r H H := fun _ _ h _ _ => h
theorem Kp.trans {d r : Addr} {H H1 H2 : Hp} (a : Kp d r H H1) (b : Kp d r H1 H2) : Kp d r H H2 := fun c o h h1 h2 => b c o (a c o h h1 h2) h1 h2
theorem Sm.kp {d r : Addr} {H H' : Hp} (a : Sm H H') : Kp d r H H' := fun c o h _ _ => a c o h
theorem Kp.new {d r : Addr} {H : Hp} {p : Addr} {o : HO} (h : H p = none) : Kp d r H (upd H p o) := (Sm.new h).kp
theorem Kp.sqL {K : PySem.W.Frag} {d r : Addr} {H H' : Hp} {a : Addr} {xs : List V} (e : Kp d r H H') (h1 : a ≠ d) (h2 : a ≠ r) (h : SqL K H a xs) : SqL K H' a xs := by
  rcases h with (h | ⟨o, h⟩) | h
  · exact .inl (.inl (e _ _ h h1 h2))
  · exact .inl (.inr ⟨o, e _ _ h h1 h2⟩)
  · exact .inr h
/-- what is drawn from: the cells, how often, the rests -/
structure Dr (H : Hp) (d c r : Addr) (n : Nat) : Prop where
  ex : ∃ (cells rests : List Int) (t : Nat), H d = some (.lst [.ref c, .int (t : Int), .ref r]) ∧ H c = some (.lst (cells.map V.int)) ∧ H r = some (.lst (rests.map V.int)) ∧
    cells.length = rests.length ∧ 0 < cells.length ∧ cells.length ≤ 64 ∧ t ≤ n ∧ ∀ x ∈ rests, 0 ≤ x
  dc : d ≠ c
  dr : d ≠ r
  cr : c ≠ r
theorem Dr.d_lst {H : Hp} {d c r : Addr} {n : Nat} (h : Dr H d c r n) : ∃ xs, H d = some (.lst xs) := by
  obtain ⟨_, _, _, h1, _⟩ := h.ex
  exact ⟨_, h1⟩
theorem Dr.r_lst {H : Hp} {d c r : Addr} {n : Nat} (h : Dr H d c r n) : ∃ xs, H r = some (.lst xs) := by
  obtain ⟨_, _, _, _, _, h1, _⟩ := h.ex
  exact ⟨_, h1⟩
theorem Dr.c_lst {H : Hp} {d c r : Addr} {n : Nat} (h : Dr H d c r n) : ∃ xs, H c = some (.lst xs) := by
  obtain ⟨_, _, _, _, h1, _⟩ := h.ex
  exact ⟨_, h1⟩
theorem Dr.mono {H : Hp} {d c r : Addr} {n m : Nat} (h : Dr H d c r n) (e : n ≤ m) : Dr H d c r m := by
  obtain ⟨⟨cs, rs, t, h1, h2, h3, h4, h5, h6, h7, h8⟩, a, b, k⟩ := h
  exact ⟨⟨cs, rs, t, h1, h2, h3, h4, h5, h6, Nat.le_trans h7 e, h8⟩, a, b, k⟩
theorem Dr.same {H H' : Hp} {d c r : Addr} {n : Nat} (h : Dr H d c r n) (e : Sm H H') : Dr H' d c r n := by
  obtain ⟨⟨cs, rs, t, h1, h2, h3, h4⟩, a, b, k⟩ := h
  exact ⟨⟨cs, rs, t, e _ _ h1, e _ _ h2, e _ _ h3, h4⟩, a, b, k⟩
/-- an object that is stored into, elsewhere -/
theorem Dr.upd {H : Hp} {d c r p : Addr} {n : Nat} {o : HO} (h : Dr H d c r n) (h1 : p ≠ d) (h2 : p ≠ c) (h3 : p ≠ r) : Dr (L2.upd H p o) d c r n := by
  obtain ⟨⟨cs, rs, t, e1, e2, e3, e4⟩, a, b, k⟩ := h
  refine ⟨⟨cs, rs, t, ?_, ?_, ?_, e4⟩, a, b, k⟩
  · rw [upd_ne h1.symm]; exact e1
  · rw [upd_ne h2.symm]; exact e2
  · rw [upd_ne h3.symm]; exact e3
theorem Dr.new {H : Hp} {d c r p : Addr} {n : Nat} {o : HO} (h : Dr H d c r n) (hp : H p = none) : Dr (L2.upd H p o) d c r n := h.same (Sm.new hp)
theorem Dr.ne {H : Hp} {d c r p : Addr} {n : Nat} (h : Dr H d c r n) (hp : H p = none) : p ≠ d ∧ p ≠ c ∧ p ≠ r := by
  obtain ⟨x, h1⟩ := h.d_lst
  obtain ⟨y, h2⟩ := h.c_lst
  obtain ⟨z, h3⟩ := h.r_lst
  exact ⟨(ne_of_none h1 hp).symm, (ne_of_none h2 hp).symm, (ne_of_none h3 hp).symm⟩
theorem Dr.kpT {K : PySem.W.Frag} {H H' : Hp} {d c r a : Addr} {n : Nat} {xs : List V} (h : Dr H d c r n) (e : Kp d r H H') (hs : SqT K H a xs) : SqT K H' a xs := by
  obtain ⟨x, h1⟩ := h.d_lst
  obtain ⟨y, h2⟩ := h.r_lst
  rcases hs with (q | ⟨o, q⟩) | q
  · exact .inl (.inl (e _ _ q (ne_of q h1 (by intro z; cases z)) (ne_of q h2 (by intro z; cases z))))
  · exact .inl (.inr ⟨o, e _ _ q (ne_of q h1 (by intro z; cases z)) (ne_of q h2 (by intro z; cases z))⟩)
  · exact .inr q
/-! ### tuples of ints, tables -/
def IT (K : PySem.W.Frag) (H : Hp) (v : V) (ns : List Int) : Prop := ∃ p, v = .ref p ∧ SqT K H p (ns.map V.int)
def Rows (K : PySem.W.Frag) (H : Hp) (vs : List V) (t : List (List Int)) : Prop := vs.length = t.length ∧ ∀ (i : Nat) v ns, vs[i]? = some v → t[i]? = some ns → IT K H v ns
def TT (K : PySem.W.Frag) (H : Hp) (v : V) (t : List (List Int)) : Prop := ∃ p vs, v = .ref p ∧ SqT K H p vs ∧ Rows K H vs t
theorem IT.same {K : PySem.W.Frag} {H H' : Hp} {v : V} {ns : List Int} (h : IT K H v ns) (e : Sm H H') : IT K H' v ns := by
  obtain ⟨p, h1, h2⟩ := h
  exact ⟨p, h1, e.sqT h2⟩
theorem Rows.same {K : PySem.W.Frag} {H H' : Hp} {vs : List V} {t : List (List Int)} (h : Rows K H vs t) (e : Sm H H') : Rows K H' vs t :=
  ⟨h.1, fun i v ns a b => (h.2 i v ns a b).same e⟩
theorem TT.same {K : PySem.W.Frag} {H H' : Hp} {v : V} {t : List (List Int)} (h : TT K H v t) (e : Sm H H') : TT K H' v t := by
  obtain ⟨p, vs, h1, h2, h3⟩ := h
  exact ⟨p, vs, h1, e.sqT h2, h3.same e⟩
theorem IT.kp {K : PySem.W.Frag} {H H' : Hp} {d c r : Addr} {n : Nat} {v : V} {ns : List Int} (h : IT K H v ns) (g : Dr H d c r n) (e : Kp d r H H') : IT K H' v ns := by
  obtain ⟨p, h1, h2⟩ := h
  exact ⟨p, h1, g.kpT e h2⟩
theorem Rows.kp {K : PySem.W.Frag} {H H' : Hp} {d c r : Addr} {n : Nat} {vs : List V} {t : List (List Int)} (h : Rows K H vs t) (g : Dr H d c r n) (e : Kp d r H H') : Rows K H' vs t :=
  ⟨h.1, fun i v ns a b => (h.2 i v ns a b).kp g e⟩
theorem TT.kp {K : PySem.W.Frag} {H H' : Hp} {d c r : Addr} {n : Nat} {v : V} {t : List (List Int)} (h : TT K H v t) (g : Dr H d c r n) (e : Kp d r H H') : TT K H' v t := by
  obtain ⟨p, vs, h1, h2, h3⟩ := h
  exact ⟨p, vs, h1, g.kpT e h2, h3.kp g e⟩
/-- stores into a list -/
theorem sqT_upd {K : PySem.W.Frag} {H : Hp} {a p : Addr} {xs ys zs : List V} (hp : H p = some (.lst ys)) (hs : SqT K H a xs) : SqT K (L2.upd H p (.lst zs)) a xs := by
  rcases hs with (q | ⟨o, q⟩) | q
  · exact .inl (.inl (by rw [upd_ne (ne_of q hp (by intro z; cases z))]; exact q))
  · exact .inl (.inr ⟨o, by rw [upd_ne (ne_of q hp (by intro z; cases z))]; exact q⟩)
  · exact .inr q
theorem IT.upd {K : PySem.W.Frag} {H : Hp} {p : Addr} {ys zs : List V} {v : V} {ns : List Int} (h : IT K H v ns) (hp : H p = some (.lst ys)) : IT K (L2.upd H p (.lst zs)) v ns := by
  obtain ⟨q, h1, h2⟩ := h
  exact ⟨q, h1, sqT_upd hp h2⟩
theorem Rows.upd {K : PySem.W.Frag} {H : Hp} {p : Addr} {ys zs : List V} {vs : List V} {t : List (List Int)} (h : Rows K H vs t) (hp : H p = some (.lst ys)) : Rows K (L2.upd H p (.lst zs)) vs t :=
  ⟨h.1, fun i v ns a b => (h.2 i v ns a b).upd hp⟩
theorem Rows.nil {K : PySem.W.Frag} {H : Hp} : Rows K H [] [] := ⟨rfl, fun i v ns a _ => by simp at a⟩
theorem Rows.snoc {K : PySem.W.Frag} {H : Hp} {vs : List V} {t : List (List Int)} {v : V} {ns : List Int} (h : Rows K H vs t) (q : IT K H v ns) : Rows K H (vs ++ [v]) (t ++ [ns]) := by
  refine ⟨by rw [List.length_append, List.length_append, h.1]; rfl, fun i u ms a b => ?_⟩
  by_cases hi : i < vs.length
  · rw [List.getElem?_append_left hi] at a
    rw [List.getElem?_append_left (by rw [← h.1]; exact hi)] at b
    exact h.2 i u ms a b
  · rw [List.getElem?_append_right (by omega)] at a
    rw [List.getElem?_append_right (by rw [← h.1]; omega), ← h.1] at b
    cases e : i - vs.length with
    | zero =>
      rw [e] at a b
      cases Option.some.inj a
      cases Option.some.inj b
      exact q
    | succ k => rw [e] at a; simp at a
theorem Rows.get {K : PySem.W.Frag} {H : Hp} {vs : List V} {t : List (List Int)} (h : Rows K H vs t) {i : Nat} (hi : i < t.length) : ∃ v p, vs[i]? = some v ∧ v = .ref p ∧ SqT K H p ((t.getD i []).map V.int) := by
  have h1 : i < vs.length := by rw [h.1]; exact hi
  have a : vs[i]? = some vs[i] := List.getElem?_eq_getElem h1
  have b : t[i]? = some t[i] := List.getElem?_eq_getElem hi
  obtain ⟨p, e, q⟩ := h.2 i _ _ a b
  refine ⟨_, p, a, e, ?_⟩
  rw [List.getD_eq_getElem?_getD, b]
  exact q
/-- a table's levels -/
def LvOk (x : Int) : Prop := 1 ≤ x ∧ x ≤ 1000000000000
def WT (t : List (List Int)) : Prop := ∀ (i : Nat) ns, t[i]? = some ns → ns.length = i ∧ ∀ x ∈ ns, LvOk x
def lev (t : List (List Int)) (i j : Nat) : Int := if i = j then 0 else (t.getD (max i j) []).getD (min i j) 0
theorem lev_comm (t : List (List Int)) (i j : Nat) : lev t i j = lev t j i := by
  unfold lev
  by_cases h : i = j
  · rw [if_pos h, if_pos h.symm]
  · rw [if_neg h, if_neg (fun e => h e.symm), Nat.max_comm, Nat.min_comm]
theorem WT.row {t : List (List Int)} (h : WT t) {i : Nat} (hi : i < t.length) : (t.getD i []).length = i ∧ ∀ x ∈ t.getD i [], LvOk x := by
  have b : t[i]? = some t[i] := List.getElem?_eq_getElem hi
  rw [List.getD_eq_getElem?_getD, b]
  exact h i _ b
theorem WT.lev {t : List (List Int)} (h : WT t) {i j : Nat} (hi : i < t.length) (hj : j < t.length) (hij : i ≠ j) : LvOk (lev t i j) := by
  unfold Ml.lev
  rw [if_neg hij]
  have hm : max i j < t.length := by omega
  obtain ⟨h1, h2⟩ := h.row hm
  have hl : min i j < (t.getD (max i j) []).length := by omega
  rw [List.getD_eq_getElem?_getD, List.getElem?_eq_getElem hl]
  exact h2 _ (List.getElem_mem hl)
theorem WT.nil : WT [] := fun i ns h => by simp at h
theorem WT.snoc {t : List (List Int)} {ns : List Int} (h : WT t) (h1 : ns.length = t.length) (h2 : ∀ x ∈ ns, LvOk x) : WT (t ++ [ns]) := by
  intro i ms q
  by_cases hi : i < t.length
  · rw [List.getElem?_append_left hi] at q
    exact h i ms q
  · rw [List.getElem?_append_right (by omega)] at q
    cases e : i - t.length with
    | zero =>
      rw [e] at q
      cases Option.some.inj q
      exact ⟨by omega, h2⟩
    | succ k => rw [e] at q; simp at q
theorem map_at {ns : List Int} {i : Nat} {x : Int} (h : ns[i]? = some x) : (ns.map V.int)[i]? = some (.int x) := by
  rw [List.getElem?_map, h]
  rfl
theorem getD_at {ns : List Int} {i : Nat} (h : i < ns.length) : ns[i]? = some (ns.getD i 0) := by
  rw [List.getD_eq_getElem?_getD, List.getElem?_eq_getElem h]
  rfl
end Ml
namespace Ml
open PySem PySem.Spec PyProof.Rows L2
theorem ixN_at {n j : Nat} (h : j < n) : ixN n (j : Int) = some j := by
  unfold ixN
  rw [if_pos (by omega), if_pos (by omega)]
  simp
end Ml

namespace Ml
open PySem PySem.Spec PyProof.Rows L2
section
variable {X : Cx}
/-- t + u: some tuple of both -/
def rCatW (K : PySem.W.Frag) : R2 := fun x y H Q => ∃ a b xs ys, x = .ref a ∧ y = .ref b ∧ SqT K H a xs ∧ SqT K H b ys ∧ xs.length + ys.length ≤ sizeLine ∧ ∀ p H', Sm H H' → SqT K H' p (xs ++ ys) → Q (.ref p) H'
theorem op_catW : OpR X (binaryOp .Add) (rCatW X.K) := by
  intro pins s σ H x y v u Q I rx ry h
  obtain ⟨a, b, xs, ys, e1, e2, ha, hb, hz, q⟩ := h
  refine op_catA pins s σ H x y v u Q I rx ry ⟨a, b, xs, ys, e1, e2, ha, hb, hz, fun e => ?_, fun _ e => ?_, fun _ _ p hp => ?_⟩
  · rw [e, List.nil_append] at q
    exact q b H (Sm.refl H) hb
  · rw [e, List.append_nil] at q
    exact q a H (Sm.refl H) ha
  · exact q p _ (Sm.new hp) (SqT.of upd_same)
/-- t[lo:hi]: some tuple of these -/
def rSlW (K : PySem.W.Frag) : V → Option Int → Option Int → Hp → VK → Prop := fun x lo hi H Q => ∃ a xs, x = .ref a ∧ SqT K H a xs ∧ ∀ p H', Sm H H' → SqT K H' p (cutV xs lo hi) → Q (.ref p) H'
theorem sl_tupW : SlR X (rSlW X.K) := by
  intro pins s σ H x v vl vu lo hi sl Q I rx hs pl pu h
  obtain ⟨a, xs, e1, ha, q⟩ := h
  refine sl_tupA pins s σ H x v vl vu lo hi sl Q I rx hs pl pu ⟨a, xs, e1, ha, fun e => ?_, fun _ p hp => ?_⟩
  · refine q a H (Sm.refl H) ?_
    have e3 : cutV xs lo hi = xs := by
      unfold cutV
      rw [e.1, e.2, List.drop_zero, Nat.sub_zero, List.take_length]
    rw [e3]
    exact ha
  · exact q p _ (Sm.new hp) (SqT.of upd_same)
end
theorem cut_to (xs : List V) (k : Nat) : cutV xs none (some (k : Int)) = xs.take k := by
  unfold cutV
  rw [HT.sIx_none, HT.sIx_nat, List.drop_zero, Nat.sub_zero]
  by_cases h : k ≤ xs.length
  · rw [Nat.min_eq_left h]
  · rw [Nat.min_eq_right (by omega), List.take_length, List.take_of_length_le (by omega)]
theorem cut_from (xs : List V) (k : Nat) : cutV xs (some (k : Int)) none = xs.drop k := by
  unfold cutV
  rw [HT.sIx_none, HT.sIx_nat]
  by_cases h : k ≤ xs.length
  · rw [Nat.min_eq_left h]
    exact List.take_of_length_le (by rw [List.length_drop]; omega)
  · rw [Nat.min_eq_right (by omega), List.drop_length, List.drop_of_length_le (by omega), List.take_nil]
theorem set_parts {α : Type} (xs : List α) (i : Nat) (v : α) (h : i < xs.length) : xs.take i ++ [v] ++ xs.drop (i + 1) = xs.set i v := by
  rw [List.set_eq_take_append_cons_drop, if_pos h, List.append_assoc]
  rfl
theorem Rows.set {K : PySem.W.Frag} {H : Hp} {vs : List V} {t : List (List Int)} {i : Nat} {v : V} {ns : List Int} (h : Rows K H vs t) (q : IT K H v ns) : Rows K H (vs.set i v) (t.set i ns) := by
  refine ⟨by rw [List.length_set, List.length_set]; exact h.1, fun j u ms a b => ?_⟩
  by_cases e : i = j
  · subst e
    rw [List.getElem?_set_self'] at a b
    cases e1 : vs[i]? with
    | none => rw [e1] at a; cases a
    | some z =>
      cases e2 : t[i]? with
      | none => rw [e2] at b; cases b
      | some y =>
        rw [e1] at a
        rw [e2] at b
        cases Option.some.inj a
        cases Option.some.inj b
        exact q
  · rw [List.getElem?_set_ne e] at a b
    exact h.2 j u ms a b
theorem WT.set {t : List (List Int)} {i : Nat} {ns : List Int} (h : WT t) (h1 : ns.length = i) (h2 : ∀ x ∈ ns, LvOk x) : WT (t.set i ns) := by
  intro j ms q
  by_cases e : i = j
  · subst e
    rw [List.getElem?_set_self'] at q
    cases e1 : t[i]? with
    | none => rw [e1] at q; cases q
    | some z =>
      rw [e1] at q
      cases Option.some.inj q
      exact ⟨h1, h2⟩
  · rw [List.getElem?_set_ne e] at q
    exact h j ms q
end Ml

namespace Ml
open PySem PySem.Spec PyProof.Rows L2
/-! ### data at any depth -/
mutual
theorem Dp.same {K : PySem.W.Frag} {H H' : Hp} (e : Sm H H') : ∀ (d : PyData) (v : V), Dp K H v d → Dp K H' v d
  | .none, _, h => by cases h; exact .non
  | .bool b, _, h => by cases h; exact .bl b
  | .int i, _, h => by cases h; exact .int i
  | .str x, _, h => by cases h; exact .str x
  | .list ds, _, h => by
    cases h with
    | lst hs ha => exact .lst (e.sqL hs) (Dp.sameAll e ds _ ha)
  | .tuple ds, _, h => by
    cases h with
    | tup hs ha => exact .tup (e.sqT hs) (Dp.sameAll e ds _ ha)
  | .dict _, _, h => by cases h
theorem Dp.sameAll {K : PySem.W.Frag} {H H' : Hp} (e : Sm H H') : ∀ (ds : List PyData) (vs : List V), DpAll K H vs ds → DpAll K H' vs ds
  | [], _, h => by cases h; exact .nil
  | d :: ds, _, h => by
    cases h with
    | cons h1 h2 => exact .cons (Dp.same e d _ h1) (Dp.sameAll e ds _ h2)
end
theorem dp_len {K : PySem.W.Frag} {H : Hp} : ∀ {vs : List V} {ds : List PyData}, DpAll K H vs ds → vs.length = ds.length
  | [], _, h => by cases h; rfl
  | v :: vs, _, h => by
    cases h with
    | cons _ h2 => rw [List.length_cons, List.length_cons, dp_len h2]
theorem dp_at {K : PySem.W.Frag} {H : Hp} : ∀ {vs : List V} {ds : List PyData}, DpAll K H vs ds → ∀ {i : Nat} {v : V}, vs[i]? = some v → ∃ d, ds[i]? = some d ∧ Dp K H v d
  | [], _, h, i, v, e => by simp at e
  | u :: vs, _, h, i, v, e => by
    cases h with
    | cons h1 h2 =>
      cases i with
      | zero => cases Option.some.inj e; exact ⟨_, rfl, h1⟩
      | succ i => exact dp_at h2 (i := i) (by simpa using e)
theorem dp_ints {K : PySem.W.Frag} {H : Hp} : ∀ ns : List Int, DpAll K H (ns.map V.int) (ns.map PyData.int)
  | [] => .nil
  | n :: ns => .cons (.int n) (dp_ints ns)
/-- what may be compared: no lists, not too deep -/
def okD : Nat → PyData → Prop
  | _, .none => True
  | _, .bool _ => True
  | _, .int _ => True
  | _, .str _ => True
  | n + 1, .tuple ds => ds.length ≤ 1000 ∧ ∀ d ∈ ds, okD n d
  | _, _ => False
theorem okD_int (n : Nat) (i : Int) : okD n (.int i) := by cases n <;> exact trivial
theorem okD_none (n : Nat) : okD n .none := by cases n <;> exact trivial
theorem okD_bool (n : Nat) (b : Bool) : okD n (.bool b) := by cases n <;> exact trivial
theorem okD_ints (n : Nat) (ns : List Int) (h : ns.length ≤ 1000) : okD (n + 1) (.tuple (ns.map PyData.int)) := by
  refine ⟨by rw [List.length_map]; exact h, fun d hd => ?_⟩
  obtain ⟨i, _, rfl⟩ := List.mem_map.mp hd
  exact okD_int n i
theorem ty_tup {K : PySem.W.Frag} {H : Hp} {a : Addr} {xs : List V} (h : SqT K H a xs) : TyX K H (.ref a) (.type "tuple") := by
  rcases h with (h | ⟨o, h⟩) | ⟨o, its, n, h1, h2, _⟩
  · exact .base (.tup h)
  · exact .fTuple h
  · exact .kTuple h1 h2
def tyN : PyData → String
  | .none => "NoneType"
  | .bool _ => "bool"
  | .int _ => "int"
  | .str _ => "str"
  | .tuple _ => "tuple"
  | .list _ => "list"
  | .dict _ => "dict"
theorem dp_ty {K : PySem.W.Frag} {H : Hp} {n : Nat} {d : PyData} {v : V} (h : Dp K H v d) (ok : okD n d) : TyX K H v (.type (tyN d)) := by
  cases h with
  | non => exact .base .non
  | bl b => exact .base (.bl b)
  | int i => exact .base (.int i)
  | str x => exact .base (.str x)
  | lst hs ha => cases n <;> exact ok.elim
  | tup hs ha => exact ty_tup hs
end Ml

namespace Ml
open PySem PySem.Spec PyProof.Rows L2
/-! ### pairs of items -/
def prow (n i : Nat) : List (Nat × Nat) := (List.range (n - (i + 1))).map fun j => (i, i + 1 + j)
def ppre (n i : Nat) : List (Nat × Nat) := (List.range i).flatMap (prow n)
theorem ppre_succ (n i : Nat) : ppre n (i + 1) = ppre n i ++ prow n i := by
  unfold ppre
  rw [List.range_succ, List.flatMap_append]
  simp
theorem prow_len (n i : Nat) : (prow n i).length = n - (i + 1) := by
  unfold prow
  rw [List.length_map, List.length_range]
theorem prow_take (n i j : Nat) (h : j < n - (i + 1)) : (prow n i).take (j + 1) = (prow n i).take j ++ [(i, i + 1 + j)] := by
  have e : (prow n i)[j]? = some (i, i + 1 + j) := by
    unfold prow
    rw [List.getElem?_map, List.getElem?_range h]
    rfl
  rw [List.take_add_one, e]
  rfl
theorem ppre_len_le (n : Nat) : ∀ i, (ppre n i).length ≤ i * n
  | 0 => Nat.zero_le _
  | i + 1 => by
    have ih := ppre_len_le n i
    rw [ppre_succ, List.length_append, prow_len, Nat.succ_mul]
    omega
theorem mem_prow {n i a b : Nat} : (a, b) ∈ prow n i ↔ a = i ∧ i < b ∧ b < n := by
  unfold prow
  rw [List.mem_map]
  constructor
  · rintro ⟨j, hj, e⟩
    have h1 := List.mem_range.mp hj
    have e1 : i = a := congrArg Prod.fst e
    have e2 : i + 1 + j = b := congrArg Prod.snd e
    omega
  · rintro ⟨rfl, h1, h2⟩
    exact ⟨b - (a + 1), List.mem_range.mpr (by omega), by rw [show a + 1 + (b - (a + 1)) = b by omega]⟩
theorem mem_ppre {n i a b : Nat} : (a, b) ∈ ppre n i ↔ a < i ∧ a < b ∧ b < n := by
  unfold ppre
  rw [List.mem_flatMap]
  constructor
  · rintro ⟨j, hj, e⟩
    have h1 := List.mem_range.mp hj
    obtain ⟨rfl, h2, h3⟩ := mem_prow.mp e
    exact ⟨h1, h2, h3⟩
  · rintro ⟨h1, h2, h3⟩
    exact ⟨a, List.mem_range.mpr h1, mem_prow.mpr ⟨rfl, h2, h3⟩⟩
def Plt (p q : Nat × Nat) : Prop := p.1 < q.1 ∨ (p.1 = q.1 ∧ p.2 < q.2)
theorem prow_sorted (n i : Nat) : (prow n i).Pairwise Plt := by
  unfold prow
  rw [List.pairwise_map]
  refine List.Pairwise.imp ?_ (List.pairwise_lt_range (n := n - (i + 1)))
  intro a b h
  exact .inr ⟨rfl, by show i + 1 + a < i + 1 + b; omega⟩
theorem ppre_sorted (n : Nat) : ∀ i, (ppre n i).Pairwise Plt
  | 0 => List.Pairwise.nil
  | i + 1 => by
    rw [ppre_succ, List.pairwise_append]
    refine ⟨ppre_sorted n i, prow_sorted n i, fun p hp q hq => ?_⟩
    obtain ⟨a, b⟩ := p
    obtain ⟨a', b'⟩ := q
    have h1 := mem_ppre.mp hp
    have h2 := mem_prow.mp hq
    exact .inl (by show a < a'; omega)
/-- a place in the list of pairs -/
theorem pair_before {n i : Nat} {l : List (Nat × Nat)} (hs : l.Pairwise Plt) {p q : Nat × Nat} {k : Nat} (hp : l[k]? = some p) (hq : q ∈ l) (h : Plt q p) : ∃ m, m < k ∧ l[m]? = some q := by
  obtain ⟨m, hm, e⟩ := List.getElem_of_mem hq
  obtain ⟨hk, ek⟩ := List.getElem?_eq_some_iff.mp hp
  refine ⟨m, ?_, by rw [List.getElem?_eq_getElem hm, e]⟩
  rcases Nat.lt_trichotomy m k with z | z | z
  · exact z
  · subst z
    rw [e] at ek
    subst ek
    rcases h with h | ⟨_, h⟩ <;> exact absurd h (Nat.lt_irrefl _)
  · have w := List.pairwise_iff_getElem.mp hs k m hk hm z
    rw [ek, e] at w
    rcases h with h | ⟨h1, h2⟩ <;> rcases w with w | ⟨w1, w2⟩ <;> omega
/-- the pairs as tuples in the heap -/
def Prs (K : PySem.W.Frag) (H : Hp) (vs : List V) (ps : List (Nat × Nat)) : Prop := vs.length = ps.length ∧ ∀ (i : Nat) v p, vs[i]? = some v → ps[i]? = some p → ∃ a, v = .ref a ∧ SqT K H a [.int (p.1 : Int), .int (p.2 : Int)]
theorem Prs.nil {K : PySem.W.Frag} {H : Hp} : Prs K H [] [] := ⟨rfl, fun i v p a _ => by simp at a⟩
theorem Prs.same {K : PySem.W.Frag} {H H' : Hp} {vs : List V} {ps : List (Nat × Nat)} (h : Prs K H vs ps) (e : Sm H H') : Prs K H' vs ps :=
  ⟨h.1, fun i v p a b => let ⟨q, h1, h2⟩ := h.2 i v p a b; ⟨q, h1, e.sqT h2⟩⟩
theorem Prs.upd {K : PySem.W.Frag} {H : Hp} {p : Addr} {ys zs : List V} {vs : List V} {ps : List (Nat × Nat)} (h : Prs K H vs ps) (hp : H p = some (.lst ys)) : Prs K (L2.upd H p (.lst zs)) vs ps :=
  ⟨h.1, fun i v q a b => let ⟨r, h1, h2⟩ := h.2 i v q a b; ⟨r, h1, sqT_upd hp h2⟩⟩
theorem Prs.append {K : PySem.W.Frag} {H : Hp} {vs ws : List V} {ps qs : List (Nat × Nat)} (h : Prs K H vs ps) (g : Prs K H ws qs) : Prs K H (vs ++ ws) (ps ++ qs) := by
  refine ⟨by rw [List.length_append, List.length_append, h.1, g.1], fun i u p a b => ?_⟩
  by_cases hi : i < vs.length
  · rw [List.getElem?_append_left hi] at a
    rw [List.getElem?_append_left (by rw [← h.1]; exact hi)] at b
    exact h.2 i u p a b
  · rw [List.getElem?_append_right (by omega)] at a
    rw [List.getElem?_append_right (by rw [← h.1]; omega), ← h.1] at b
    exact g.2 _ u p a b
theorem Prs.one {K : PySem.W.Frag} {H : Hp} {a : Addr} {i j : Nat} (h : SqT K H a [.int (i : Int), .int (j : Int)]) : Prs K H [.ref a] [(i, j)] := by
  refine ⟨rfl, fun k v p e1 e2 => ?_⟩
  cases k with
  | zero =>
    cases Option.some.inj e1
    cases Option.some.inj e2
    exact ⟨a, rfl, h⟩
  | succ k => simp at e1
/-! ### three levels -/
def Ev3 (a b c : Int) : Prop := (a = b ∧ c ≤ a) ∨ (a = c ∧ b ≤ a) ∨ (b = c ∧ a ≤ b)
theorem sum_perm : ∀ {l m : List Int}, l.Perm m → l.sum = m.sum := by
  intro l m h
  induction h with
  | nil => rfl
  | cons x _ ih => rw [List.sum_cons, List.sum_cons, ih]
  | swap x y l => rw [List.sum_cons, List.sum_cons, List.sum_cons, List.sum_cons]; omega
  | trans _ _ ih1 ih2 => rw [ih1, ih2]
theorem sorted3 {a b c : Int} {ns : List Int} (hp : ns.Perm [a, b, c]) (hs : ns.Pairwise (· ≤ ·)) : ∃ x y z, ns = [x, y, z] ∧ (y = z ↔ Ev3 a b c) := by
  have hl := hp.length_eq
  match ns, hp, hs, hl with
  | [x, y, z], hp, hs, _ =>
    refine ⟨x, y, z, rfl, ?_⟩
    have m : ∀ v, v ∈ [x, y, z] ↔ v ∈ [a, b, c] := fun v => hp.mem_iff
    have mx := (m x).mp (by simp)
    have my := (m y).mp (by simp)
    have mz := (m z).mp (by simp)
    have ma := (m a).mpr (by simp)
    have mb := (m b).mpr (by simp)
    have mc := (m c).mpr (by simp)
    have hsum := sum_perm hp
    simp only [List.mem_cons, List.not_mem_nil, or_false] at mx my mz ma mb mc
    simp only [List.sum_cons, List.sum_nil] at hsum
    simp only [List.pairwise_cons, List.mem_cons, List.not_mem_nil, or_false, forall_eq_or_imp, forall_eq] at hs
    obtain ⟨⟨h1, h2⟩, h3, _⟩ := hs
    unfold Ev3
    rcases mx with rfl | rfl | rfl <;> rcases my with rfl | rfl | rfl <;> rcases mz with rfl | rfl | rfl <;> omega
theorem count_max3 {a b c m : Int} (hm : m ∈ [a, b, c]) (hx : ∀ y, y ∈ [a, b, c] → y ≤ m) : ([a, b, c].count m = 1) ↔ ¬ Ev3 a b c := by
  have ha := hx a (by simp)
  have hb := hx b (by simp)
  have hc := hx c (by simp)
  simp only [List.mem_cons, List.not_mem_nil, or_false] at hm
  simp only [List.count_cons, List.count_nil]
  unfold Ev3
  have e : ∀ x y : Int, (x == y) = decide (x = y) := fun x y => by
    by_cases h : x = y
    · rw [h, beq_self_eq_true, decide_eq_true rfl]
    · rw [decide_eq_false h]; exact beq_eq_false_iff_ne.mpr h
  simp only [e, decide_eq_true_eq]
  rcases hm with rfl | rfl | rfl <;> (split <;> split <;> split <;> omega)
/-- three items of a table -/
def Ev (t : List (List Int)) (i j k : Nat) : Prop := Ev3 (lev t i j) (lev t i k) (lev t j k)
def Triple (n i j k : Nat) : Prop := i < j ∧ j < k ∧ k < n
def Tlt (i j k i' j' k' : Nat) : Prop := i < i' ∨ (i = i' ∧ (j < j' ∨ (j = j' ∧ k < k')))
def AllEven (t : List (List Int)) : Prop := ∀ i j k, Triple t.length i j k → Ev t i j k
def FirstUneven (t : List (List Int)) (i j k : Nat) : Prop := Triple t.length i j k ∧ ¬ Ev t i j k ∧ ∀ i' j' k', Triple t.length i' j' k' → Tlt i' j' k' i j k → Ev t i' j' k'
theorem first_unique {t : List (List Int)} {i j k i' j' k' : Nat} (h : FirstUneven t i j k) (h' : FirstUneven t i' j' k') : i = i' ∧ j = j' ∧ k = k' := by
  obtain ⟨a, b, c⟩ := h
  obtain ⟨a', b', c'⟩ := h'
  have n1 : ¬ Tlt i j k i' j' k' := fun z => b (c' i j k a z)
  have n2 : ¬ Tlt i' j' k' i j k := fun z => b' (c i' j' k' a' z)
  unfold Tlt at n1 n2
  omega
theorem first_not_all {t : List (List Int)} {i j k : Nat} (h : FirstUneven t i j k) (g : AllEven t) : False := h.2.1 (g i j k h.1)
/-- what a search over pairs and thirds has seen -/
theorem first_of {t : List (List Int)} {n m a b k : Nat} (hn : n = t.length) (hp : (ppre n n)[m]? = some (a, b)) (seen : ∀ q, q < m → ∀ a' b', (ppre n n)[q]? = some (a', b') → ∀ k', b' < k' → k' < n → Ev t a' b' k')
    (seen2 : ∀ k', b < k' → k' < k → Ev t a b k') (hk : b < k ∧ k < n) (hno : ¬ Ev t a b k) : FirstUneven t a b k := by
  have hab := mem_ppre.mp (List.mem_of_getElem? hp)
  subst hn
  refine ⟨⟨hab.2.1, hk.1, hk.2⟩, hno, fun i' j' k' ht hlt => ?_⟩
  obtain ⟨t1, t2, t3⟩ := ht
  by_cases e : i' = a ∧ j' = b
  · obtain ⟨rfl, rfl⟩ := e
    refine seen2 k' t2 ?_
    unfold Tlt at hlt
    omega
  · have hlt2 : Plt (i', j') (a, b) := by
      unfold Tlt at hlt
      unfold Plt
      show i' < a ∨ (i' = a ∧ j' < b)
      omega
    obtain ⟨q, hq, eq⟩ := pair_before (n := 0) (i := 0) (ppre_sorted t.length t.length) hp (mem_ppre.mpr (show i' < t.length ∧ i' < j' ∧ j' < t.length from ⟨by omega, t1, by omega⟩)) hlt2
    exact seen q hq i' j' eq k' t2 t3
theorem all_of {t : List (List Int)} {n : Nat} (hn : n = t.length) (seen : ∀ q, q < (ppre n n).length → ∀ a' b', (ppre n n)[q]? = some (a', b') → ∀ k', b' < k' → k' < n → Ev t a' b' k') : AllEven t := by
  subst hn
  intro i j k ⟨h1, h2, h3⟩
  obtain ⟨q, hq, eq⟩ := List.getElem_of_mem (mem_ppre.mpr (show i < t.length ∧ i < j ∧ j < t.length from ⟨by omega, h1, by omega⟩))
  exact seen q hq i j (by rw [List.getElem?_eq_getElem hq, eq]) k h2 h3
end Ml

namespace Ml
open PySem PySem.Spec PyProof.Rows L2
/-! ### lists of ints compared -/
theorem eqv_ints : ∀ (a b : List Int), PyData.eqvAll (a.map PyData.int) (b.map PyData.int) = decide (a = b)
  | [], [] => by simp [PyData.eqvAll]
  | [], b :: m => by simp [PyData.eqvAll]
  | a :: l, [] => by simp [PyData.eqvAll]
  | a :: l, b :: m => by
    have ih := eqv_ints l m
    simp only [List.map_cons, PyData.eqvAll, PyData.eqv, ih]
    by_cases h : a = b
    · subst h
      by_cases h2 : l = m
      · subst h2; simp
      · simp [h2]
    · simp [h]
theorem eqv_list (a b : List Int) : PyData.eqv (.list (a.map PyData.int)) (.list (b.map PyData.int)) = decide (a = b) := by
  simp only [PyData.eqv, eqv_ints]
theorem eqv_tup (a b : List Int) : PyData.eqv (.tuple (a.map PyData.int)) (.tuple (b.map PyData.int)) = decide (a = b) := by
  simp only [PyData.eqv, eqv_ints]
theorem lay_ints : ∀ ns : List Int, PyData.canLayAll0 (ns.map PyData.int) = true
  | [] => by simp [PyData.canLayAll0]
  | n :: ns => by simp [PyData.canLayAll0, PyData.canLay0, lay_ints ns]
theorem deep_ints : ∀ ns : List Int, PyData.depthAll (ns.map PyData.int) = 0
  | [] => by simp [PyData.depthAll]
  | n :: ns => by simp [PyData.depthAll, PyData.depth, deep_ints ns]
theorem shaped_list (ns : List Int) : SeqAt.shaped (.list (ns.map PyData.int)) = true := by
  show ((PyData.list (ns.map PyData.int)).canLay0 && decide ((PyData.list (ns.map PyData.int)).depth ≤ 64)) = true
  simp [PyData.canLay0, PyData.depth, lay_ints ns, deep_ints ns]
theorem shaped_tup (ns : List Int) : SeqAt.shaped (.tuple (ns.map PyData.int)) = true := by
  show ((PyData.tuple (ns.map PyData.int)).canLay0 && decide ((PyData.tuple (ns.map PyData.int)).depth ≤ 64)) = true
  simp [PyData.canLay0, PyData.depth, lay_ints ns, deep_ints ns]
theorem dp_list {K : PySem.W.Frag} {H : Hp} {p : Addr} {ns : List Int} (h : H p = some (.lst (ns.map V.int))) : Dp K H (.ref p) (.list (ns.map PyData.int)) := .lst (SqL.of h) (dp_ints ns)
theorem dp_listS {K : PySem.W.Frag} {H : Hp} {p : Addr} {ns : List Int} (h : SqL K H p (ns.map V.int)) : Dp K H (.ref p) (.list (ns.map PyData.int)) := .lst h (dp_ints ns)
theorem dp_tup {K : PySem.W.Frag} {H : Hp} {p : Addr} {ns : List Int} (h : SqT K H p (ns.map V.int)) : Dp K H (.ref p) (.tuple (ns.map PyData.int)) := .tup h (dp_ints ns)
/-! ### what being nested means -/
def Ultra (t : List (List Int)) : Prop := ∀ i j k, i < t.length → j < t.length → k < t.length → lev t i k ≤ max (lev t i j) (lev t j k)
theorem lev_self (t : List (List Int)) (i : Nat) : lev t i i = 0 := by
  unfold lev
  rw [if_pos rfl]
theorem lev_nn {t : List (List Int)} (h : WT t) {i j : Nat} (hi : i < t.length) (hj : j < t.length) : 0 ≤ lev t i j := by
  by_cases e : i = j
  · rw [e, lev_self]
    exact Int.le_refl 0
  · have := (h.lev hi hj e).1
    omega
theorem Ev.sym {t : List (List Int)} {i j k : Nat} (h : Ev t i j k) : lev t i k ≤ max (lev t i j) (lev t j k) ∧ lev t i j ≤ max (lev t i k) (lev t j k) ∧ lev t j k ≤ max (lev t i j) (lev t i k) := by
  unfold Ev Ev3 at h
  omega
theorem ultra_of_even {t : List (List Int)} (hW : WT t) (h : AllEven t) : Ultra t := by
  intro i j k hi hj hk
  have n1 := lev_nn hW hi hj
  have n2 := lev_nn hW hj hk
  by_cases e1 : i = j
  · subst e1
    rw [lev_self]
    omega
  by_cases e2 : j = k
  · subst e2
    rw [lev_self]
    omega
  by_cases e3 : i = k
  · subst e3
    rw [lev_self]
    omega
  have c1 := lev_comm t j i
  have c2 := lev_comm t k j
  have c3 := lev_comm t k i
  have key : ∀ a b c, Triple t.length a b c → _ := fun a b c hT => (h a b c hT).sym
  unfold Triple at key
  rcases Nat.lt_or_gt_of_ne e1 with a | a <;> rcases Nat.lt_or_gt_of_ne e2 with b | b <;> rcases Nat.lt_or_gt_of_ne e3 with c | c
  · have := key i j k ⟨a, b, hk⟩; omega
  · omega
  · have := key i k j ⟨c, b, hj⟩; omega
  · have := key k i j ⟨c, a, hj⟩; omega
  · have := key j i k ⟨a, c, hk⟩; omega
  · have := key j k i ⟨b, c, hi⟩; omega
  · omega
  · have := key k j i ⟨b, a, hi⟩; omega
theorem even_of_ultra {t : List (List Int)} (h : Ultra t) : AllEven t := by
  intro i j k ⟨h1, h2, h3⟩
  have a := h i j k (by omega) (by omega) h3
  have b := h i k j (by omega) h3 (by omega)
  have c := h j i k (by omega) (by omega) h3
  rw [lev_comm t k j] at b
  rw [lev_comm t j i] at c
  unfold Ev Ev3
  omega
/-- at a level all that is near is near alike -/
def TransAt (t : List (List Int)) (lv : Int) : Prop := ∀ i j k, i < t.length → j < t.length → k < t.length → lev t i j ≤ lv → (lev t i k ≤ lv ↔ lev t j k ≤ lv)
theorem trans_of_ultra {t : List (List Int)} (h : Ultra t) (lv : Int) : TransAt t lv := by
  intro i j k hi hj hk hl
  have a := h i j k hi hj hk
  have b := h j i k hj hi hk
  rw [lev_comm t j i] at b
  omega
theorem lev_mem {t : List (List Int)} (hW : WT t) {i j : Nat} (hi : i < t.length) (hj : j < t.length) (hij : i ≠ j) : lev t i j ∈ t.flatten := by
  have hm : max i j < t.length := by omega
  obtain ⟨h1, h2⟩ := hW.row hm
  have hl : min i j < (t.getD (max i j) []).length := by omega
  unfold lev
  rw [if_neg hij]
  refine List.mem_flatten.mpr ⟨t.getD (max i j) [], ?_, ?_⟩
  · rw [List.getD_eq_getElem?_getD, List.getElem?_eq_getElem hm]
    exact List.getElem_mem hm
  · exact List.mem_of_getElem? (getD_at hl)
theorem ultra_of_trans {t : List (List Int)} (hW : WT t) (h : ∀ lv ∈ t.flatten, TransAt t lv) : Ultra t := by
  intro i j k hi hj hk
  have n1 := lev_nn hW hi hj
  have n2 := lev_nn hW hj hk
  by_cases e1 : i = j
  · subst e1; rw [lev_self]; omega
  by_cases e2 : j = k
  · subst e2; rw [lev_self]; omega
  rcases Int.le_total (lev t i j) (lev t j k) with z | z
  · have a := h _ (lev_mem hW hj hk e2) i j k hi hj hk z
    have := a.mpr (Int.le_refl _)
    omega
  · have a := h _ (lev_mem hW hi hj e1) i j k hi hj hk (Int.le_refl _)
    have := a.mpr z
    omega
def FarAlike (t : List (List Int)) : Prop := ∀ i j k, i < j → j < t.length → k < t.length → lev t i j < max (lev t i k) (lev t j k) → lev t i k = lev t j k
theorem far_of_ultra {t : List (List Int)} (h : Ultra t) : FarAlike t := by
  intro i j k hij hj hk hl
  have a := h i j k (by omega) hj hk
  have b := h j i k hj (by omega) hk
  rw [lev_comm t j i] at b
  omega
theorem even_of_far {t : List (List Int)} (h : FarAlike t) : AllEven t := by
  intro i j k ⟨h1, h2, h3⟩
  have a := h i j k h1 (by omega) h3
  have b := h i k j (by omega) h3 (by omega)
  have c := h j k i h2 h3 (by omega)
  rw [lev_comm t k j] at b
  rw [lev_comm t j i, lev_comm t k i] at c
  unfold Ev Ev3
  omega
end Ml

namespace Ml
open PySem PySem.Spec PyProof.Rows L2
/-! ### lowest ways -/
def fw (f : Nat → Nat → Int) : Nat → Nat → Nat → Int
  | 0, i, j => f i j
  | k + 1, i, j => min (fw f k i j) (max (fw f k i k) (fw f k k j))
theorem fw_le {f : Nat → Nat → Int} : ∀ (k i j : Nat), fw f k i j ≤ f i j
  | 0, i, j => Int.le_refl _
  | k + 1, i, j => by
    have := fw_le (f := f) k i j
    show min (fw f k i j) (max (fw f k i k) (fw f k k j)) ≤ f i j
    omega
theorem fw_nn {f : Nat → Nat → Int} {n : Nat} (h : ∀ i j, i < n → j < n → 0 ≤ f i j) : ∀ (k i j : Nat), k ≤ n → i < n → j < n → 0 ≤ fw f k i j
  | 0, i, j, _, hi, hj => h i j hi hj
  | k + 1, i, j, hk, hi, hj => by
    have a := fw_nn h k i j (by omega) hi hj
    have b := fw_nn h k i k (by omega) hi (by omega)
    have c := fw_nn h k k j (by omega) (by omega) hj
    show 0 ≤ min (fw f k i j) (max (fw f k i k) (fw f k k j))
    omega
theorem fw_sym {f : Nat → Nat → Int} (h : ∀ i j, f i j = f j i) : ∀ (k i j : Nat), fw f k i j = fw f k j i
  | 0, i, j => h i j
  | k + 1, i, j => by
    have a := fw_sym h k i j
    have b := fw_sym h k i k
    have c := fw_sym h k k j
    show min (fw f k i j) (max (fw f k i k) (fw f k k j)) = min (fw f k j i) (max (fw f k j k) (fw f k k i))
    omega
theorem fw_diag {f : Nat → Nat → Int} {n : Nat} (h : ∀ i j, i < n → j < n → 0 ≤ f i j) (h0 : ∀ i, f i i = 0) (k i : Nat) (hk : k ≤ n) (hi : i < n) : fw f k i i = 0 := by
  have a := fw_nn h k i i hk hi hi
  have b := fw_le (f := f) k i i
  rw [h0 i] at b
  omega
/-- the middle's own rows and columns stay -/
theorem fw_row {f : Nat → Nat → Int} {n : Nat} (h : ∀ i j, i < n → j < n → 0 ≤ f i j) (h0 : ∀ i, f i i = 0) (k i : Nat) (hk : k < n) (hi : i < n) : fw f (k + 1) i k = fw f k i k ∧ fw f (k + 1) k i = fw f k k i := by
  have a := fw_nn h k i k (by omega) hi hk
  have b := fw_nn h k k i (by omega) hk hi
  have c := fw_diag h h0 k k (by omega) hk
  constructor
  · show min (fw f k i k) (max (fw f k i k) (fw f k k k)) = _
    omega
  · show min (fw f k k i) (max (fw f k k k) (fw f k k i)) = _
    omega
theorem fw_tri {f : Nat → Nat → Int} {n : Nat} (h : ∀ i j, i < n → j < n → 0 ≤ f i j) (h0 : ∀ i, f i i = 0) : ∀ (k : Nat), k ≤ n → ∀ i j m, i < n → j < n → m < k → fw f k i j ≤ max (fw f k i m) (fw f k m j)
  | 0, _, i, j, m, _, _, hm => absurd hm (Nat.not_lt_zero _)
  | k + 1, hk, i, j, m, hi, hj, hm => by
    have ih := fw_tri h h0 k (by omega)
    by_cases e : m = k
    · subst e
      have a := fw_row h h0 m i (by omega) hi
      have b := fw_row h h0 m j (by omega) hj
      rw [a.1, b.2]
      show min (fw f m i j) (max (fw f m i m) (fw f m m j)) ≤ _
      omega
    · have hm' : m < k := by omega
      have a := ih i j m hi hj hm'
      have b := ih k j m (by omega) hj hm'
      have c := ih i k m hi (by omega) hm'
      show min (fw f k i j) (max (fw f k i k) (fw f k k j)) ≤ max (min (fw f k i m) (max (fw f k i k) (fw f k k m))) (min (fw f k m j) (max (fw f k m k) (fw f k k j)))
      omega
/-- walks with steps at most h -/
inductive Wk (f : Nat → Nat → Int) (n : Nat) (h : Int) (i : Nat) : Nat → Prop
  | refl : Wk f n h i i
  | step {j k : Nat} : Wk f n h i j → j < n → k < n → f j k ≤ h → Wk f n h i k
theorem Wk.mono {f : Nat → Nat → Int} {n : Nat} {h h' : Int} {i j : Nat} (w : Wk f n h i j) (e : h ≤ h') : Wk f n h' i j := by
  induction w with
  | refl => exact .refl
  | step _ a b c ih => exact ih.step a b (Int.le_trans c e)
theorem Wk.trans {f : Nat → Nat → Int} {n : Nat} {h : Int} {i j k : Nat} (w : Wk f n h i j) (v : Wk f n h j k) : Wk f n h i k := by
  induction v with
  | refl => exact w
  | step _ a b c ih => exact ih.step a b c
theorem fw_walk {f : Nat → Nat → Int} {n : Nat} : ∀ (k i j : Nat), k ≤ n → i < n → j < n → Wk f n (fw f k i j) i j
  | 0, i, j, _, hi, hj => Wk.refl.step hi hj (Int.le_refl _)
  | k + 1, i, j, hk, hi, hj => by
    have a := fw_walk (f := f) (n := n) k i j (by omega) hi hj
    have b := fw_walk (f := f) (n := n) k i k (by omega) hi (by omega)
    have c := fw_walk (f := f) (n := n) k k j (by omega) (by omega) hj
    show Wk f n (min (fw f k i j) (max (fw f k i k) (fw f k k j))) i j
    rcases Int.le_total (fw f k i j) (max (fw f k i k) (fw f k k j)) with z | z
    · rw [Int.min_eq_left z]
      exact a
    · rw [Int.min_eq_right z]
      exact (b.mono (by omega)).trans (c.mono (by omega))
/-! ### joining levels of a table -/
def jn (t : List (List Int)) (i j : Nat) : Int := fw (lev t) t.length i j
section
variable {t : List (List Int)} (hW : WT t)
include hW
theorem lev_nn' : ∀ i j, i < t.length → j < t.length → 0 ≤ lev t i j := fun i j hi hj => lev_nn hW hi hj
theorem jn_le (i j : Nat) : jn t i j ≤ lev t i j := fw_le _ _ _
theorem jn_nn {i j : Nat} (hi : i < t.length) (hj : j < t.length) : 0 ≤ jn t i j := fw_nn (lev_nn' hW) _ _ _ (Nat.le_refl _) hi hj
theorem jn_sym (i j : Nat) : jn t i j = jn t j i := fw_sym (lev_comm t) _ _ _
theorem jn_diag {i : Nat} (hi : i < t.length) : jn t i i = 0 := fw_diag (lev_nn' hW) (lev_self t) _ _ (Nat.le_refl _) hi
theorem jn_tri {i j k : Nat} (hi : i < t.length) (hj : j < t.length) (hk : k < t.length) : jn t i j ≤ max (jn t i k) (jn t k j) := fw_tri (lev_nn' hW) (lev_self t) _ (Nat.le_refl _) i j k hi hj hk
theorem jn_walk {i j : Nat} (hi : i < t.length) (hj : j < t.length) : Wk (lev t) t.length (jn t i j) i j := fw_walk _ i j (Nat.le_refl _) hi hj
theorem walk_jn {i j : Nat} {h : Int} (hi : i < t.length) (h0 : 0 ≤ h) (w : Wk (lev t) t.length h i j) : jn t i j ≤ h := by
  induction w with
  | refl => rw [jn_diag hW hi]; exact h0
  | @step j k _ a b c ih =>
    have x := jn_tri hW hi b a
    have y := jn_le hW j k
    omega
theorem jn_pos {i j : Nat} (hi : i < t.length) (hj : j < t.length) (hij : i ≠ j) : LvOk (jn t i j) := by
  have a := jn_le hW i j
  have b := (hW.lev hi hj hij).2
  refine ⟨?_, by omega⟩
  have key : ∀ {j : Nat}, Wk (lev t) t.length 0 i j → i = j := fun w => by
    induction w with
    | refl => rfl
    | @step j k _ x y z ih =>
      subst ih
      refine Classical.byContradiction fun ne => ?_
      have := (hW.lev x y ne).1
      omega
  refine Classical.byContradiction fun lt => hij (key ((jn_walk hW hi hj).mono (by omega)))
end
/-! ### simple paths -/
structure Simple (n : Nat) (p : List Nat) (i j : Nat) : Prop where
  hd : p.head? = some i
  lst : p.getLast? = some j
  nod : p.Nodup
  lt : ∀ x ∈ p, x < n
def Steps (f : Nat → Nat → Int) (h : Int) (p : List Nat) : Prop := ∀ (m a b : Nat), p[m]? = some a → p[m + 1]? = some b → f a b ≤ h
theorem walk_simple {f : Nat → Nat → Int} {n : Nat} {h : Int} {i j : Nat} (hi : i < n) (w : Wk f n h i j) : ∃ p, Simple n p i j ∧ Steps f h p := by
  induction w with
  | refl => exact ⟨[i], ⟨rfl, rfl, by simp, fun x hx => by rw [List.mem_singleton.mp hx]; exact hi⟩, fun m a b h1 h2 => by
      cases m <;> simp at h2⟩
  | @step j k _ hj hk hs ih =>
    obtain ⟨p, hp, st⟩ := ih
    by_cases hm : k ∈ p
    · obtain ⟨m, hml, em⟩ := List.getElem_of_mem hm
      refine ⟨p.take (m + 1), ⟨?_, ?_, ?_, fun x hx => hp.lt x (List.mem_of_mem_take hx)⟩, fun a b c h1 h2 => ?_⟩
      · cases p with
        | nil => cases hml
        | cons x r => simpa using hp.hd
      · rw [List.getLast?_eq_getElem?, List.length_take, Nat.min_eq_left (by omega), List.getElem?_take, if_pos (by omega)]
        show p[m]? = some k
        rw [List.getElem?_eq_getElem hml, em]
      · exact hp.nod.sublist (List.take_sublist _ _)
      · rw [List.getElem?_take] at h1 h2
        split at h1
        · split at h2
          · exact st a b c h1 h2
          · cases h2
        · cases h1
    · refine ⟨p ++ [k], ⟨?_, by simp, ?_, fun x hx => ?_⟩, fun m a b h1 h2 => ?_⟩
      · cases p with
        | nil => have := hp.hd; simp at this
        | cons x r => simpa using hp.hd
      · rw [List.nodup_append]
        refine ⟨hp.nod, by simp, fun a ha b hb => ?_⟩
        rw [List.mem_singleton.mp hb]
        exact fun e => hm (e ▸ ha)
      · rcases List.mem_append.mp hx with hx | hx
        · exact hp.lt x hx
        · rw [List.mem_singleton.mp hx]; exact hk
      · by_cases hl : m + 1 < p.length
        · rw [List.getElem?_append_left (by omega)] at h1
          rw [List.getElem?_append_left hl] at h2
          exact st m a b h1 h2
        · by_cases he : m + 1 = p.length
          · rw [List.getElem?_append_left (by omega)] at h1
            rw [List.getElem?_append_right (by omega), he, Nat.sub_self] at h2
            cases Option.some.inj h2
            have e := hp.lst
            rw [List.getLast?_eq_getElem?, show p.length - 1 = m by omega, h1] at e
            cases Option.some.inj e
            exact hs
          · rw [List.getElem?_eq_none (by rw [List.length_append]; simp; omega)] at h2
            cases h2
theorem steps_walk {f : Nat → Nat → Int} {n : Nat} {h : Int} {p : List Nat} {i j : Nat} (hp : Simple n p i j) (st : Steps f h p) : Wk f n h i j := by
  have key : ∀ (m x : Nat), p[m]? = some x → Wk f n h i x := by
    intro m
    induction m with
    | zero =>
      intro x hx
      have e := hp.hd
      rw [List.head?_eq_getElem?, hx] at e
      cases Option.some.inj e
      exact .refl
    | succ m ih =>
      intro x hx
      have hl : m + 1 < p.length := (List.getElem?_eq_some_iff.mp hx).1
      have hm : p[m]? = some p[m] := List.getElem?_eq_getElem (by omega)
      exact (ih _ hm).step (hp.lt _ (List.mem_of_getElem? hm)) (hp.lt _ (List.mem_of_getElem? hx)) (st m _ x hm hx)
  have e := hp.lst
  rw [List.getLast?_eq_getElem?] at e
  exact key _ _ e
end Ml

namespace Ml
open PySem PySem.Spec PyProof.Rows L2
/-! ### comprehensions over two at once -/
theorem lc_zipL {K : PySem.W.Frag} {a b : Addr} {xs ys : List V} {n : Nat} {g : TG} {tt : L2.TT} {te : TE} {vs : List Nat} {σ : L2.St} {H1 : Hp} {D : Addr} {Qd : Hp → Prop} (hn : n = min xs.length ys.length) (Pv : Nat → Hp → Prop) (h0 : Pv 0 (upd H1 D (.lst [])))
    (hq : ∀ i H, i ≤ n → Pv i H → SqL K H a xs ∧ SqL K H b ys)
    (hs : ∀ i x y T H, xs[i]? = some x → ys[i]? = some y → Pv i H → H T = none → g (.ref T) (wipe σ vs) (upd H T (.tup [x, y])) fun σ2 H2 => wipe σ2 vs = wipe σ vs ∧ tt σ2 H2 fun b H3 =>
      if b = true then te σ2 H3 fun y H4 => ∃ acc, H4 D = some (.lst acc) ∧ acc.length < sizeLine ∧ Pv (i + 1) (upd H4 D (.lst (acc ++ [y]))) else Pv (i + 1) H3) (hd : ∀ H, Pv n H → Qd H) :
    ∃ W : Nat → Nat → Hp → Prop, (∃ m, W 0 m (upd H1 D (.lst []))) ∧ ∀ i m H, W i m H →
      ((Itz K a b).stop i H ∧ Qd H) ∨ ((Itz K a b).go i H ∧ ∃ Nx : Hp → Prop, (∀ H', Nx H' → ∃ m', m' < m ∧ W (i + 1) m' H') ∧ ∀ x H', (Itz K a b).yld i H x H' → g x (wipe σ vs) H' fun σ2 H2 => wipe σ2 vs = wipe σ vs ∧ tt σ2 H2 fun b H3 =>
        if b = true then te σ2 H3 fun y H4 => ∃ acc, H4 D = some (.lst acc) ∧ acc.length < sizeLine ∧ Nx (upd H4 D (.lst (acc ++ [y]))) else Nx H3) := by
  refine ⟨fun i m H => m = n - i ∧ i ≤ n ∧ Pv i H, ⟨n, by simp, Nat.zero_le _, h0⟩, ?_⟩
  rintro i m H ⟨rfl, hi, p⟩
  obtain ⟨q1, q2⟩ := hq i H hi p
  by_cases hlt : i < n
  · have l1 : i < xs.length := by omega
    have l2 : i < ys.length := by omega
    refine .inr ⟨⟨xs, ys, _, _, q1, q2, List.getElem?_eq_getElem l1, List.getElem?_eq_getElem l2⟩, Pv (i + 1), fun H' p' => ⟨n - (i + 1), by omega, rfl, hlt, p'⟩, fun v H' y => ?_⟩
    obtain ⟨T, x, y, rfl, hT, rfl, f1, f2⟩ := y
    exact hs i x y T H (f1 xs q1) (f2 ys q2) p hT
  · have e : i = n := by omega
    subst e
    exact .inl ⟨⟨xs, ys, q1, q2, by omega⟩, hd H p⟩
theorem lc_zipT {K : PySem.W.Frag} {a b : Addr} {xs ys : List V} {n : Nat} {g : TG} {tt : L2.TT} {te : TE} {vs : List Nat} {σ : L2.St} {H1 : Hp} {D : Addr} {Qd : Hp → Prop} (hn : n = min xs.length ys.length) (Pv : Nat → Hp → Prop) (h0 : Pv 0 (upd H1 D (.lst [])))
    (hq : ∀ i H, i ≤ n → Pv i H → SqT K H a xs ∧ SqT K H b ys)
    (hs : ∀ i x y T H, xs[i]? = some x → ys[i]? = some y → Pv i H → H T = none → g (.ref T) (wipe σ vs) (upd H T (.tup [x, y])) fun σ2 H2 => wipe σ2 vs = wipe σ vs ∧ tt σ2 H2 fun b H3 =>
      if b = true then te σ2 H3 fun y H4 => ∃ acc, H4 D = some (.lst acc) ∧ acc.length < sizeLine ∧ Pv (i + 1) (upd H4 D (.lst (acc ++ [y]))) else Pv (i + 1) H3) (hd : ∀ H, Pv n H → Qd H) :
    ∃ W : Nat → Nat → Hp → Prop, (∃ m, W 0 m (upd H1 D (.lst []))) ∧ ∀ i m H, W i m H →
      ((RZ.ItzT K a b).stop i H ∧ Qd H) ∨ ((RZ.ItzT K a b).go i H ∧ ∃ Nx : Hp → Prop, (∀ H', Nx H' → ∃ m', m' < m ∧ W (i + 1) m' H') ∧ ∀ x H', (RZ.ItzT K a b).yld i H x H' → g x (wipe σ vs) H' fun σ2 H2 => wipe σ2 vs = wipe σ vs ∧ tt σ2 H2 fun b H3 =>
        if b = true then te σ2 H3 fun y H4 => ∃ acc, H4 D = some (.lst acc) ∧ acc.length < sizeLine ∧ Nx (upd H4 D (.lst (acc ++ [y]))) else Nx H3) := by
  refine ⟨fun i m H => m = n - i ∧ i ≤ n ∧ Pv i H, ⟨n, by simp, Nat.zero_le _, h0⟩, ?_⟩
  rintro i m H ⟨rfl, hi, p⟩
  obtain ⟨q1, q2⟩ := hq i H hi p
  by_cases hlt : i < n
  · have l1 : i < xs.length := by omega
    have l2 : i < ys.length := by omega
    refine .inr ⟨⟨xs, ys, _, _, q1, q2, List.getElem?_eq_getElem l1, List.getElem?_eq_getElem l2⟩, Pv (i + 1), fun H' p' => ⟨n - (i + 1), by omega, rfl, hlt, p'⟩, fun v H' y => ?_⟩
    obtain ⟨T, x, y, rfl, hT, rfl, f1, f2⟩ := y
    exact hs i x y T H (f1 xs q1) (f2 ys q2) p hT
  · have e : i = n := by omega
    subst e
    exact .inl ⟨⟨xs, ys, q1, q2, by omega⟩, hd H p⟩
/-! ### lists of lists of ints, each row its own object -/
def Rws (H : Hp) (ps : List Addr) (g : List (List Int)) : Prop := ps.length = g.length ∧ ps.Nodup ∧ ∀ (i : Nat) p ns, ps[i]? = some p → g[i]? = some ns → H p = some (.lst (ns.map V.int))
theorem Rws.same {H H' : Hp} {ps : List Addr} {g : List (List Int)} (h : Rws H ps g) (e : Sm H H') : Rws H' ps g := ⟨h.1, h.2.1, fun i p ns a b => e _ _ (h.2.2 i p ns a b)⟩
theorem Rws.nil {H : Hp} : Rws H [] [] := ⟨rfl, List.nodup_nil, fun i v ns a _ => by simp at a⟩
theorem Rws.at {H : Hp} {ps : List Addr} {g : List (List Int)} (h : Rws H ps g) {p : Addr} (hp : p ∈ ps) : ∃ ns : List Int, H p = some (.lst (ns.map V.int)) := by
  obtain ⟨i, hi, e⟩ := List.getElem_of_mem hp
  have hg : i < g.length := by rw [← h.1]; exact hi
  exact ⟨g[i], h.2.2 i p g[i] (by rw [List.getElem?_eq_getElem hi, e]) (List.getElem?_eq_getElem hg)⟩
theorem Rws.not_mem {H : Hp} {ps : List Addr} {g : List (List Int)} (h : Rws H ps g) {q : Addr} (hq : H q = none) : q ∉ ps := fun hp => by
  obtain ⟨ns, e⟩ := h.at hp
  rw [hq] at e
  cases e
/-- the list of the rows is no row -/
theorem Rws.outer {H : Hp} {ps : List Addr} {g : List (List Int)} (h : Rws H ps g) {o : Addr} (ho : H o = some (.lst (ps.map V.ref))) : o ∉ ps := fun hp => by
  obtain ⟨ns, e⟩ := h.at hp
  rw [ho] at e
  have e1 := HO.lst.inj (Option.some.inj e)
  cases ps with
  | nil => simp at hp
  | cons a b =>
    cases ns with
    | nil => simp at e1
    | cons c d => simp at e1
theorem Rws.upd {H : Hp} {ps : List Addr} {g : List (List Int)} {o : Addr} {x : HO} (h : Rws H ps g) (ho : o ∉ ps) : Rws (L2.upd H o x) ps g :=
  ⟨h.1, h.2.1, fun i p ns a b => by
    have ne : p ≠ o := fun e => ho (by rw [← e]; exact List.mem_of_getElem? a)
    rw [upd_ne ne]
    exact h.2.2 i p ns a b⟩
theorem Rws.snoc {H : Hp} {ps : List Addr} {g : List (List Int)} {q : Addr} {ns : List Int} (h : Rws H ps g) (hn : q ∉ ps) (hq : H q = some (.lst (ns.map V.int))) : Rws H (ps ++ [q]) (g ++ [ns]) := by
  refine ⟨by rw [List.length_append, List.length_append, h.1]; rfl, ?_, fun i p ms a b => ?_⟩
  · rw [List.nodup_append]
    refine ⟨h.2.1, by simp, fun a ha b hb => ?_⟩
    rw [List.mem_singleton.mp hb]
    exact fun e => hn (e ▸ ha)
  · by_cases hi : i < ps.length
    · rw [List.getElem?_append_left hi] at a
      rw [List.getElem?_append_left (by rw [← h.1]; exact hi)] at b
      exact h.2.2 i p ms a b
    · rw [List.getElem?_append_right (by omega)] at a
      rw [List.getElem?_append_right (by rw [← h.1]; omega), ← h.1] at b
      cases e : i - ps.length with
      | zero =>
        rw [e] at a b
        cases Option.some.inj a
        cases Option.some.inj b
        exact hq
      | succ k => rw [e] at a; simp at a
theorem Rws.get {H : Hp} {ps : List Addr} {g : List (List Int)} (h : Rws H ps g) {i : Nat} (hi : i < g.length) : ∃ p, ps[i]? = some p ∧ H p = some (.lst ((g.getD i []).map V.int)) := by
  have h1 : i < ps.length := by rw [h.1]; exact hi
  refine ⟨ps[i], List.getElem?_eq_getElem h1, ?_⟩
  rw [List.getD_eq_getElem?_getD, List.getElem?_eq_getElem hi]
  exact h.2.2 i _ _ (List.getElem?_eq_getElem h1) (List.getElem?_eq_getElem hi)
theorem refs_at {ps : List Addr} {i : Nat} {p : Addr} (h : ps[i]? = some p) : (ps.map V.ref)[i]? = some (.ref p) := by
  rw [List.getElem?_map, h]
  rfl
/-- a row stored into -/
theorem Rws.set {H : Hp} {ps : List Addr} {g : List (List Int)} {i : Nat} {p : Addr} {ns : List Int} (h : Rws H ps g) (hp : ps[i]? = some p) : Rws (L2.upd H p (.lst (ns.map V.int))) ps (g.set i ns) := by
  refine ⟨by rw [List.length_set]; exact h.1, h.2.1, fun j q ms a b => ?_⟩
  by_cases e : j = i
  · subst e
    rw [hp] at a
    cases Option.some.inj a
    have hl : j < g.length := by rw [← h.1]; exact (List.getElem?_eq_some_iff.mp hp).1
    rw [List.getElem?_set_self hl] at b
    cases Option.some.inj b
    exact upd_same
  · have ne : q ≠ p := fun z => by
      subst z
      have l1 := (List.getElem?_eq_some_iff.mp a)
      have l2 := (List.getElem?_eq_some_iff.mp hp)
      obtain ⟨l1, e1⟩ := l1
      obtain ⟨l2, e2⟩ := l2
      have nd := List.pairwise_iff_getElem.mp h.2.1
      rcases Nat.lt_or_gt_of_ne e with z | z
      · exact nd j i l1 l2 z (e1.trans e2.symm)
      · exact nd i j l2 l1 z (e2.trans e1.symm)
    rw [upd_ne ne]
    rw [List.getElem?_set_ne (fun z => e z.symm)] at b
    exact h.2.2 j q ms a b
/-! ### squares -/
def sqr (f : Nat → Nat → Int) (n : Nat) : List (List Int) := (List.range n).map fun i => (List.range n).map (f i)
theorem sqr_len (f : Nat → Nat → Int) (n : Nat) : (sqr f n).length = n := by
  unfold sqr
  rw [List.length_map, List.length_range]
theorem sqr_row (f : Nat → Nat → Int) {n i : Nat} (h : i < n) : (sqr f n).getD i [] = (List.range n).map (f i) := by
  unfold sqr
  rw [List.getD_eq_getElem?_getD, List.getElem?_map, List.getElem?_range h]
  rfl
theorem sqr_at (f : Nat → Nat → Int) {n i j : Nat} (h : i < n) (hj : j < n) : ((sqr f n).getD i []).getD j 0 = f i j := by
  rw [sqr_row f h, List.getD_eq_getElem?_getD, List.getElem?_map, List.getElem?_range hj]
  rfl
theorem range_map_succ (f : Nat → Int) (n : Nat) : (List.range (n + 1)).map f = (List.range n).map f ++ [f n] := by
  rw [List.range_succ, List.map_append]
  rfl
theorem sqr_take (f : Nat → Nat → Int) {n i : Nat} (h : i < n) : (sqr f n).take (i + 1) = (sqr f n).take i ++ [(List.range n).map (f i)] := by
  have e : (sqr f n)[i]? = some ((List.range n).map (f i)) := by
    unfold sqr
    rw [List.getElem?_map, List.getElem?_range h]
    rfl
  rw [List.take_add_one, e]
  rfl
theorem range_at (f : Nat → Int) {n j : Nat} (h : j < n) : (((List.range n).map f).map V.int)[j]? = some (.int (f j)) := by
  rw [List.getElem?_map, List.getElem?_map, List.getElem?_range h]
  rfl
end Ml

namespace Ml
open PySem PySem.Spec PyProof.Rows L2
/-! indices within comprehensions: the world is named -/
theorem ixK (K : PySem.W.Frag) {X : Cx} (h : X.K = K) : IxR X (rIxL K) := h ▸ ix_list
theorem ixKT (K : PySem.W.Frag) {X : Cx} (h : X.K = K) : IxR X (rIxT K) := h ▸ ix_tup
theorem at_of {α : Type} {xs : List α} {i : Int} {v : α} (j : Nat) (e : i = (j : Int)) (h : xs[j]? = some v) : atI xs i = some v := by
  rw [e]
  exact atI_nat h
end Ml

namespace Ml
/-! ### the numbers of nested tables (by levels and items), of divisions, of choices -/
def nTab : List (List Nat) := [
  [1, 1, 0, 0, 0, 0, 0, 0, 0, 0, 0, 0, 0],
  [1, 1, 1, 1, 1, 1, 1, 1, 1, 1, 1, 1, 1],
  [1, 1, 2, 5, 15, 52, 203, 877, 4140, 21147, 115975, 678570, 4213597],
  [1, 1, 3, 12, 60, 358, 2471, 19302, 167894, 1606137, 16733779, 188378402, 2276423485],
  [1, 1, 4, 22, 154, 1304, 12915, 146115, 1855570, 26097835, 402215465, 6734414075, 121629173423],
  [1, 1, 5, 35, 315, 3455, 44590, 660665, 11035095, 204904830, 4183174520, 93055783320, 2238954627848],
  [1, 1, 6, 51, 561, 7556, 120196, 2201856, 45592666, 1051951026, 26740775306, 742069051906, 22310563733864],
  [1, 1, 7, 70, 910, 14532, 274778, 5995892, 148154860, 4085619622, 124304629050, 4133867297490, 149114120602860],
  [1, 1, 8, 92, 1380, 25488, 558426, 14140722, 406005804, 13024655442, 461451524934, 17886290630832, 752602671853068],
  [1, 1, 9, 117, 1989, 41709, 1038975, 29947185, 979687005, 35839643175, 1449091813035, 64144495494825, 3084209792570721],
  [1, 1, 10, 145, 2755, 64660, 1804705, 58336855, 2141867440, 87998832685, 3998289746065, 198991311832840, 10762795518750121],
  [1, 1, 11, 176, 3696, 95986, 2967041, 106296586, 4328071506, 197304236151, 9951699489061, 550054365477936, 33053174868315877],
  [1, 1, 12, 210, 4830, 137512, 4663253, 183389757, 8200852430, 410771075397, 22773405820375, 1384060090903535, 91478394767427823],
  [1, 1, 13, 247, 6175, 191243, 7059156, 302324217, 14728998739, 804060811372, 48599537773514, 3221070321954212, 232230523534594676],
  [1, 1, 14, 287, 7749, 259364, 10351810, 479576930, 25283361390, 1494035141340, 97776174607580, 7018375580502300, 548135428211610344],
  [1, 1, 15, 330, 9570, 344240, 14772220, 736075320, 41750889160, 2655055502940, 187037786544260, 14454651940312060, 1215671913487470944],
  [1, 1, 16, 376, 11656, 448416, 20588036, 1097935316, 66668459896, 4539709777876, 342508747671516, 28354156880898216, 2554841092299785040],
  [1, 1, 17, 425, 14025, 574617, 28106253, 1597256097, 103378095225, 7504705041597, 603742325288325, 53301585318999705, 5122633699018868361],
  [1, 1, 18, 477, 16695, 725748, 37675911, 2272971537, 156205146324, 12042722358927, 1029045988751019, 96510871468612542, 9854566324064391309],
  [1, 1, 19, 532, 19684, 904894, 49690795, 3171758350, 230661038350, 18821086779205, 1702378891579975, 169025846789497750, 18273376662555356917],
  [1, 1, 20, 590, 23010, 1115320, 64592135, 4349000935, 333672161130, 28728162838095, 2742146963195605, 287347390493861355, 32789616583874122567],
  [1, 1, 21, 651, 26691, 1360471, 82871306, 5869812921, 473836493711, 42928443026826, 4312263201174796, 475600678346653496, 57125703234597494728],
  [1, 1, 22, 715, 30745, 1643972, 105072528, 7810115412, 661709550370, 62927353843222, 6635885481353150, 768377489271812750, 96903134910916536224],
  [1, 1, 23, 782, 35190, 1969628, 131795566, 10257771932, 910121235684, 90646861192482, 10012291501444574, 1214412409019949822, 160442211841276104092],
  [1, 1, 24, 852, 40044, 2341424, 163698430, 13313780070, 1234525196260, 128513014059270, 14837400344107970, 1881278317317581800, 259834893404400316940],
  [1, 1, 25, 925, 45325, 2763525, 201500075, 17093519825, 1653382256725, 179556622526275, 21628502587560975, 2861315900959254225, 412364553107056727865],
  [1, 1, 26, 1001, 51051, 3240276, 245983101, 21728058651, 2188579527576, 247528323368001, 31053815905922901, 4279044241676883276, 642361550630816106441],
  [1, 1, 27, 1080, 57240, 3776202, 297996453, 27365513202, 2865886772490, 337029343602147, 43967540687463225, 6300334925780574420, 983600925534693125037],
  [1, 1, 28, 1162, 63910, 4376008, 358458121, 34172467777, 3715451622694, 453659329534537, 61451150356838179, 9143670753967186927, 1482368338213953174775],
  [1, 1, 29, 1247, 71079, 5044579, 428357840, 42335449465, 4772335225995, 604182665987160, 84861713817216190, 13093852135792175700, 2201342858243629838788],
  [1, 1, 30, 1335, 78765, 5786980, 508759790, 52062459990, 6077089918070, 796714767552480, 115888112729923120, 18518559775551912920, 3224470555393544619088],
  [1, 1, 31, 1426, 86986, 6608456, 600805296, 63584564256, 7676380503616, 1040929880870776, 156616084222880456, 25888231436182932056, 4663031320841024302304],
  [1, 1, 32, 1520, 95760, 7514432, 705715528, 77157535592, 9623650734960, 1348291994080872, 209603090064663800, 35799763546706505840, 6663133181215281372800],
  [1, 1, 33, 1617, 105105, 8510513, 824794201, 93063557697, 11979836575729, 1732310506748217, 277964086358475209, 49004605338186827857, 9414903821206809213233],
  [1, 1, 34, 1717, 115039, 9602484, 959430275, 111612983285, 14814127837180, 2208822370727875, 365469343399701135, 66441874194583974450, 13163688366025437106461],
  [1, 1, 35, 1820, 125580, 10796310, 1111100655, 133146149430, 18204779774790, 2796302469573585, 476655543502017915, 89277186129723939690, 18223605966787221462861],
  [1, 1, 36, 1926, 136746, 12098136, 1281372891, 158035249611, 22239976232706, 3516204061257651, 616951465330208961, 118947964891332521211, 24993865663084490997567],
  [1, 1, 37, 2035, 148555, 13514287, 1471907878, 186686262457, 27018745923655, 4393331166120022, 792819646582972000, 157216067289142848760, 33978294660012527086888],
  [1, 1, 38, 2147, 161025, 15051268, 1684462556, 219540937192, 32651933431914, 5456244839118522, 1011915502746020914, 206228641087943050362, 45808589853593999116216],
  [1, 1, 39, 2262, 174174, 16715764, 1920892610, 257078835780, 39263226526940, 6737705322605790, 1283265468084724930, 268588215339536103050, 61271866479997881727084],
  [1, 1, 40, 2380, 188020, 18514640, 2183155170, 299819431770, 46990241375260, 8275152133012090, 1617465816066378110, 347433111491393476160, 81343146470668690472684],
  [1, 1, 41, 2501, 202581, 20454941, 2473311511, 348324265841, 55985667238221, 10111224191966751, 2026903909994954291, 446529357145752905241, 107223503797276059053105],
  [1, 1, 42, 2625, 217875, 22543892, 2793529753, 403199158047, 66418472243200, 12294322169544597, 2526003730805876825, 570375383092493693680, 140384665126411560137801],
  [1, 1, 43, 2752, 233920, 24788898, 3146087561, 465096476762, 78475171815874, 14879215264477327, 3131497627704918669, 724320888343775487192, 182620951822682898467349],
  [1, 1, 44, 2882, 250734, 27197544, 3533374845, 534717464325, 92361161361150, 17927694703323405, 3862726338643846575, 914701367499603663375, 236109544098104875693407],
  [1, 1, 45, 3015, 268335, 29777595, 3957896460, 612814619385, 108302114780355, 21509276297743620, 4741969431505833330, 1148989910012641484580, 303480150272617578058932],
  [1, 1, 46, 3151, 286741, 32536996, 4422274906, 700194135946, 126545450412286, 25701954456183076, 5794808423325984196, 1435968001939181137396, 387895274061666847894168],
  [1, 1, 47, 3290, 305970, 35483872, 4929253028, 797718399112, 147361865985720, 30593010103413972, 7050524943896557900, 1785917187702667886100, 493142390927888085921664],
  [1, 1, 48, 3432, 326040, 38626528, 5481696716, 906308537532, 171046944170984, 36279875018547132, 8542536421702608724, 2210833582397998960472, 623739471220205651999632],
  [1, 1, 49, 3577, 346969, 41973449, 6082597605, 1026947032545, 197922830318185, 42871055159273845, 10308871884301834445, 2724667364370446640425, 785055423479596486221305],
  [1, 1, 50, 3725, 368775, 45533300, 6735075775, 1160680384025, 228339983969700, 50487115597253175, 12392690582002385075, 3343589523353938450950, 983447176330203999822605],
  [1, 1, 51, 3876, 391476, 49314926, 7442382451, 1308621832926, 262679005734526, 59261729746713501, 14842846263004269551, 4086288291491021600926, 1226415272220598766285381],
  [1, 1, 52, 4030, 415090, 53327352, 8207902703, 1471954140527, 301352541112090, 69342795625490647, 17714500050053791725, 4974297843222598948395, 1522780011365274098072727],
  [1, 1, 53, 4187, 439635, 57579783, 9035158146, 1651932424377, 344807262853119, 80893621944878562, 21069784993116153204, 6032362015470905012952, 1882880360002781284870440],
  [1, 1, 54, 4347, 465129, 62081604, 9927809640, 1849887050940, 393525933445170, 94094186881822110, 24978525499598978790, 7288835971885648042950, 2318798023985431196868528],
  [1, 1, 55, 4510, 491590, 66842380, 10889659990, 2067226584940, 448029549310420, 109142472444135130, 29519014973259050470, 8776128914322233041270, 2844609287206732263892828],
  [1, 1, 56, 4676, 519036, 71871856, 11924656646, 2305440795406, 508879568303316, 126255877396580526, 34778855125095978106, 10531191131313956118456, 3476667424926551711043244],
  [1, 1, 57, 4845, 547485, 77179957, 13036894403, 2566103718417, 576680222095685, 145672711772802747, 40855860554279889175, 12596048867228477736065, 4233918725149565587425865],
  [1, 1, 58, 5017, 576955, 82776788, 14230618101, 2850876776547, 652080915036904, 167653776055256617, 47859032334475486109, 15018390697204196486132, 5138255387338427830655273],
  [1, 1, 59, 5192, 607464, 88672634, 15510225325, 3161511955010, 735778711076730, 192484028162430075, 55909604480811997985, 17852209301985811184700, 6214908817397099670684701],
  [1, 1, 60, 5370, 639030, 94877960, 16880269105, 3499855034505, 828520910338390, 220474341439811985, 65142167315207643515, 21158502753561832398415, 7492887101549134437389351]]
def sTab : List (List Nat) := [
  [1, 0, 0, 0, 0, 0, 0, 0, 0, 0, 0, 0, 0],
  [0, 1, 0, 0, 0, 0, 0, 0, 0, 0, 0, 0, 0],
  [0, 1, 1, 0, 0, 0, 0, 0, 0, 0, 0, 0, 0],
  [0, 1, 3, 1, 0, 0, 0, 0, 0, 0, 0, 0, 0],
  [0, 1, 7, 6, 1, 0, 0, 0, 0, 0, 0, 0, 0],
  [0, 1, 15, 25, 10, 1, 0, 0, 0, 0, 0, 0, 0],
  [0, 1, 31, 90, 65, 15, 1, 0, 0, 0, 0, 0, 0],
  [0, 1, 63, 301, 350, 140, 21, 1, 0, 0, 0, 0, 0],
  [0, 1, 127, 966, 1701, 1050, 266, 28, 1, 0, 0, 0, 0],
  [0, 1, 255, 3025, 7770, 6951, 2646, 462, 36, 1, 0, 0, 0],
  [0, 1, 511, 9330, 34105, 42525, 22827, 5880, 750, 45, 1, 0, 0],
  [0, 1, 1023, 28501, 145750, 246730, 179487, 63987, 11880, 1155, 55, 1, 0],
  [0, 1, 2047, 86526, 611501, 1379400, 1323652, 627396, 159027, 22275, 1705, 66, 1]]
def cTab : List (List Nat) := [
  [1, 0, 0, 0, 0, 0, 0, 0, 0, 0, 0, 0, 0],
  [1, 1, 0, 0, 0, 0, 0, 0, 0, 0, 0, 0, 0],
  [1, 2, 1, 0, 0, 0, 0, 0, 0, 0, 0, 0, 0],
  [1, 3, 3, 1, 0, 0, 0, 0, 0, 0, 0, 0, 0],
  [1, 4, 6, 4, 1, 0, 0, 0, 0, 0, 0, 0, 0],
  [1, 5, 10, 10, 5, 1, 0, 0, 0, 0, 0, 0, 0],
  [1, 6, 15, 20, 15, 6, 1, 0, 0, 0, 0, 0, 0],
  [1, 7, 21, 35, 35, 21, 7, 1, 0, 0, 0, 0, 0],
  [1, 8, 28, 56, 70, 56, 28, 8, 1, 0, 0, 0, 0],
  [1, 9, 36, 84, 126, 126, 84, 36, 9, 1, 0, 0, 0],
  [1, 10, 45, 120, 210, 252, 210, 120, 45, 10, 1, 0, 0],
  [1, 11, 55, 165, 330, 462, 462, 330, 165, 55, 11, 1, 0],
  [1, 12, 66, 220, 495, 792, 924, 792, 495, 220, 66, 12, 1]]
def tb (t : List (List Nat)) (i j : Nat) : Nat := (t.getD i []).getD j 0
def sumN : Nat → (Nat → Nat) → Nat
  | 0, _ => 0
  | n + 1, f => sumN n f + f n
theorem tab_A : ∀ l < 60, ∀ c < 12, tb nTab (l + 1) (c + 1) = sumN (c + 1) (fun o => tb cTab c o * tb nTab l (o + 1) * tb nTab (l + 1) (c - o)) := by decide +kernel
theorem tab_0 : ∀ l < 61, tb nTab l 0 = 1 := by decide +kernel
theorem tab_00 : ∀ k < 13, tb nTab 0 k = if k ≤ 1 then 1 else 0 := by decide +kernel
theorem tab_le : ∀ l < 61, ∀ k < 13, tb nTab l k < 2 ^ 200 := by decide +kernel
/-- divisions: with b they are proper -/
def Sl (b m p : Nat) : Nat := if m < p + b then 0 else tb sTab m p
def Nu (l k : Nat) : Nat := if k = 0 then 0 else tb nTab l k
theorem tab_B : ∀ n < 14, ∀ l < 60, ∀ c < n, Nu (l + 1) c = sumN n (fun p => Sl 0 c p * Nu l p) := by decide +kernel
theorem tab_B1 : ∀ n < 14, ∀ l < 60, ∀ c < n, Nu (l + 1) c = Nu l c + sumN n (fun p => Sl 1 c p * Nu l p) := by decide +kernel
theorem tab_S0 : ∀ p < 13, tb sTab 0 p = if p = 0 then 1 else 0 := by decide +kernel
theorem tab_S1 : ∀ m < 12, tb sTab (m + 1) 0 = 0 ∧ ∀ p < 12, tb sTab (m + 1) (p + 1) = tb sTab m p + (p + 1) * tb sTab m (p + 1) := by decide +kernel
theorem tab_Sle : ∀ m < 13, ∀ p < 13, tb sTab m p < 2 ^ 32 := by decide +kernel
/-- choices -/
def ch (c : Nat) : Nat → Nat
  | 0 => 1
  | k + 1 => ch c k * (c - k) / (k + 1)
theorem tab_C : ∀ c < 13, ∀ k < 13, ch c k = tb cTab c k := by decide +kernel
theorem tab_Cle : ∀ c < 13, ∀ k < 13, tb cTab c k < 2 ^ 32 := by decide +kernel
end Ml

namespace Ml
/-! ### sums -/
def sumI : Nat → (Nat → Int) → Int
  | 0, _ => 0
  | n + 1, f => sumI n f + f n
theorem sumI_range (n : Nat) (f : Nat → Int) : ((List.range n).map f).sum = sumI n f := by
  induction n with
  | zero => rfl
  | succ n ih =>
    rw [List.range_succ, List.map_append, List.sum_append, ih]
    simp [sumI]
theorem sumI_cast (n : Nat) (f : Nat → Nat) : sumI n (fun k => (f k : Int)) = (sumN n f : Int) := by
  induction n with
  | zero => rfl
  | succ n ih => simp only [sumI, sumN, ih, Int.natCast_add]
theorem sumI_congr {n : Nat} {f g : Nat → Int} (h : ∀ k, k < n → f k = g k) : sumI n f = sumI n g := by
  induction n with
  | zero => rfl
  | succ n ih => simp only [sumI, ih (fun k hk => h k (by omega)), h n (by omega)]
theorem sumI_zero {n : Nat} {f : Nat → Int} (h : ∀ k, k < n → f k = 0) : sumI n f = 0 := by
  induction n with
  | zero => rfl
  | succ n ih => simp only [sumI, ih (fun k hk => h k (by omega)), h n (by omega)]; rfl
theorem sumI_add (n : Nat) (f g : Nat → Int) : sumI n (fun k => f k + g k) = sumI n f + sumI n g := by
  induction n with
  | zero => rfl
  | succ n ih => simp only [sumI, ih]; omega
theorem sumI_sub (n : Nat) (f g : Nat → Int) : sumI n (fun k => f k - g k) = sumI n f - sumI n g := by
  induction n with
  | zero => rfl
  | succ n ih => simp only [sumI, ih]; omega
theorem sumI_mul (n : Nat) (a : Int) (f : Nat → Int) : sumI n (fun k => a * f k) = a * sumI n f := by
  induction n with
  | zero => simp [sumI]
  | succ n ih => simp only [sumI, ih, Int.mul_add]
theorem sumI_mulr (n : Nat) (a : Int) (f : Nat → Int) : sumI n (fun k => f k * a) = sumI n f * a := by
  induction n with
  | zero => simp [sumI]
  | succ n ih => simp only [sumI, ih, Int.add_mul]
theorem sumI_swap (n m : Nat) (f : Nat → Nat → Int) : sumI n (fun i => sumI m (fun j => f i j)) = sumI m (fun j => sumI n (fun i => f i j)) := by
  induction n with
  | zero => exact (sumI_zero (n := m) (f := fun j => sumI 0 (fun i => f i j)) (fun _ _ => rfl)).symm
  | succ n ih => simp only [sumI, ih, sumI_add]
theorem sumI_shift (a k : Nat) (f : Nat → Int) : sumI (a + k) f = sumI a f + sumI k (fun j => f (a + j)) := by
  induction k with
  | zero => simp [sumI]
  | succ k ih => rw [← Nat.add_assoc]; simp only [sumI, ih]; omega
theorem sumI_delta {n c : Nat} (hc : c < n) (g : Nat → Int) : sumI n (fun k => (if k = c then 1 else 0) * g k) = g c := by
  induction n with
  | zero => omega
  | succ n ih =>
    simp only [sumI]
    by_cases h : c = n
    · subst h
      rw [sumI_zero (fun k hk => by rw [if_neg (by omega), Int.zero_mul]), if_pos rfl, Int.one_mul, Int.zero_add]
    · rw [ih (by omega), if_neg (by omega), Int.zero_mul, Int.add_zero]
/-! ### ways, forward and backward -/
def uw (b n : Nat) : Nat → Nat → Int
  | 0, k => if k = 1 then 1 else 0
  | L + 1, c => sumI n (fun p => (Sl b c p : Int) * uw b n L p)
def nw (b n c : Nat) : Nat → Nat → Int
  | 0, k => if k = c then 1 else 0
  | t + 1, p => sumI n (fun m => nw b n c t m * (Sl b m p : Int))
theorem nw_move (b n c t L : Nat) : sumI n (fun p => nw b n c (t + 1) p * uw b n L p) = sumI n (fun m => nw b n c t m * uw b n (L + 1) m) := by
  have e1 : sumI n (fun p => nw b n c (t + 1) p * uw b n L p) = sumI n (fun p => sumI n (fun m => nw b n c t m * (Sl b m p : Int) * uw b n L p)) :=
    sumI_congr fun p _ => (sumI_mulr n (uw b n L p) (fun m => nw b n c t m * (Sl b m p : Int))).symm
  have e2 : sumI n (fun m => nw b n c t m * uw b n (L + 1) m) = sumI n (fun m => sumI n (fun p => nw b n c t m * (Sl b m p : Int) * uw b n L p)) :=
    sumI_congr fun m _ => by
      show nw b n c t m * sumI n _ = _
      rw [← sumI_mul]
      exact sumI_congr fun p _ => (Int.mul_assoc _ _ _).symm
  rw [e1, e2, sumI_swap]
theorem nw_all (b n c : Nat) : ∀ (t L : Nat), sumI n (fun p => nw b n c t p * uw b n L p) = sumI n (fun m => nw b n c 0 m * uw b n (L + t) m)
  | 0, L => rfl
  | t + 1, L => by rw [nw_move, nw_all b n c t (L + 1), show L + 1 + t = L + (t + 1) by omega]
theorem nw_uw {b n c : Nat} (hc : c < n) (h1 : 1 < n) (L : Nat) : nw b n c L 1 = uw b n L c := by
  have h := nw_all b n c L 0
  have a1 : sumI n (fun p => nw b n c L p * uw b n 0 p) = nw b n c L 1 := by
    rw [← sumI_delta h1 (fun p => nw b n c L p)]
    exact sumI_congr fun p _ => Int.mul_comm _ _
  have a2 : sumI n (fun m => nw b n c 0 m * uw b n (0 + L) m) = uw b n L c := by
    rw [Nat.zero_add]
    exact sumI_delta hc (fun p => uw b n L p)
  rw [← a1, h, a2]
/-! ### the numbers and their differences -/
def Df' : Nat → Nat → Nat → Int
  | 0, l, k => (Nu l k : Int)
  | j + 1, l, k => Df' j (l + 1) k - Df' j l k
theorem uw0 {n : Nat} (hn : n < 14) : ∀ (L : Nat), L ≤ 60 → ∀ c, c < n → uw 0 n L c = (Nu L c : Int)
  | 0, _, c, hc => by
    show (if c = 1 then (1 : Int) else 0) = _
    unfold Nu
    by_cases h0 : c = 0
    · subst h0; rfl
    · rw [if_neg h0, tab_00 c (by omega)]
      by_cases h1 : c = 1
      · subst h1; rfl
      · rw [if_neg h1, if_neg (by omega)]; rfl
  | L + 1, hL, c, hc => by
    rw [tab_B n hn L (by omega) c hc, ← sumI_cast]
    refine sumI_congr fun p hp => ?_
    rw [uw0 hn L (by omega) p hp, Int.natCast_mul]
theorem dif_step {n : Nat} (hn : n < 14) : ∀ (j l : Nat), j + l < 60 → ∀ c, c < n → Df' (j + 1) l c = sumI n (fun p => (Sl 1 c p : Int) * Df' j l p)
  | 0, l, h, c, hc => by
    show (Nu (l + 1) c : Int) - (Nu l c : Int) = _
    rw [tab_B1 n hn l (by omega) c hc, Int.natCast_add, ← sumI_cast]
    have : sumI n (fun k => ((Sl 1 c k * Nu l k : Nat) : Int)) = sumI n (fun p => (Sl 1 c p : Int) * Df' 0 l p) := sumI_congr fun p _ => Int.natCast_mul _ _
    omega
  | j + 1, l, h, c, hc => by
    show Df' (j + 1) (l + 1) c - Df' (j + 1) l c = _
    rw [dif_step hn j (l + 1) (by omega) c hc, dif_step hn j l (by omega) c hc, ← sumI_sub]
    exact sumI_congr fun p _ => (Int.mul_sub _ _ _).symm
theorem uw1 {n : Nat} (hn : n < 14) : ∀ (L : Nat), L ≤ 60 → ∀ c, c < n → uw 1 n L c = Df' L 0 c
  | 0, h, c, hc => uw0 hn 0 (by omega) c hc
  | L + 1, hL, c, hc => by
    rw [dif_step hn L 0 (by omega) c hc]
    exact sumI_congr fun p hp => by rw [uw1 hn L (by omega) p hp]
/-- both counts -/
theorem cnt0 {c L : Nat} (h1 : 1 ≤ c) (h12 : c ≤ 12) (hL : L ≤ 60) : nw 0 (c + 1) c L 1 = (tb nTab L c : Int) := by
  rw [nw_uw (by omega) (by omega), uw0 (by omega) L hL c (by omega)]
  unfold Nu
  rw [if_neg (by omega)]
theorem cnt1 {c L : Nat} (h1 : 1 ≤ c) (h12 : c ≤ 12) (hL : L ≤ 60) : nw 1 (c + 1) c L 1 = Df' L 0 c := by
  rw [nw_uw (by omega) (by omega), uw1 (by omega) L hL c (by omega)]
end Ml

namespace Ml
open PySem PySem.Spec PyProof.Rows L2
def topS (i : Nat) : Stmt := PySem.Challenge.pw_mergelevels_k65_nested_tables_counted.main.body.getD i (.Pass ⟨0, 0, 0, 0⟩)
abbrev s_chosen : Stmt := topS 1
abbrev N_chosen : List Str := ["count", "size", "number", "at"]
theorem sc_chosen : FnScope N_chosen ["count", "size"] (defScope s_chosen) := ⟨rfl, rfl, rfl, by decide +kernel, rfl, by decide +kernel, by decide +kernel⟩
abbrev s_with_further_level : Stmt := topS 2
abbrev N_with_further_level : List Str := ["numbers", "found", "count", "others"]
theorem sc_with_further_level : FnScope N_with_further_level ["numbers"] (defScope s_with_further_level) := ⟨rfl, rfl, rfl, by decide +kernel, rfl, by decide +kernel, by decide +kernel⟩
abbrev s_counts_by_levels : Stmt := topS 3
abbrev N_counts_by_levels : List Str := ["count", "levels", "numbers", "found"]
theorem sc_counts_by_levels : FnScope N_counts_by_levels ["count", "levels"] (defScope s_counts_by_levels) := ⟨rfl, rfl, rfl, by decide +kernel, rfl, by decide +kernel, by decide +kernel⟩
abbrev s_count_nested : Stmt := topS 4
abbrev N_count_nested : List Str := ["count", "levels", "every", "found", "fewer", "more"]
theorem sc_count_nested : FnScope N_count_nested ["count", "levels", "every"] (defScope s_count_nested) := ⟨rfl, rfl, rfl, by decide +kernel, rfl, by decide +kernel, by decide +kernel⟩
abbrev s_L_draws : Stmt := topS 6
abbrev N_L_draws : List Str := ["_law_script", "_law_cells", "_law_cell"]
theorem sc_L_draws : FnScope N_L_draws ["_law_script"] (defScope s_L_draws) := ⟨rfl, rfl, rfl, by decide +kernel, rfl, by decide +kernel, by decide +kernel⟩
abbrev s_L_next : Stmt := topS 7
abbrev N_L_next : List Str := ["_law_drawn", "_law_many", "_law_cells", "_law_turn", "_law_rests", "_law_spot", "_law_digit", "_law_mixed", "_law_again"]
theorem sc_L_next : FnScope N_L_next ["_law_drawn", "_law_many"] (defScope s_L_next) := ⟨rfl, rfl, rfl, by decide +kernel, rfl, by decide +kernel, by decide +kernel⟩
abbrev s_L_one : Stmt := topS 8
abbrev N_L_one : List Str := ["_law_drawn", "_law_items"]
theorem sc_L_one : FnScope N_L_one ["_law_drawn", "_law_items"] (defScope s_L_one) := ⟨rfl, rfl, rfl, by decide +kernel, rfl, by decide +kernel, by decide +kernel⟩
abbrev s_L_equal : Stmt := topS 9
abbrev N_L_equal : List Str := ["_law_one_here", "_law_other", "_law_a", "_law_b"]
theorem sc_L_equal : FnScope N_L_equal ["_law_one_here", "_law_other"] (defScope s_L_equal) := ⟨rfl, rfl, rfl, by decide +kernel, rfl, by decide +kernel, by decide +kernel⟩
abbrev s_L_divisions : Stmt := topS 10
abbrev N_L_divisions : List Str := ["_law_most", "_law_rows", "_law_many", "_law_row", "_law_parts"]
theorem sc_L_divisions : FnScope N_L_divisions ["_law_most"] (defScope s_L_divisions) := ⟨rfl, rfl, rfl, by decide +kernel, rfl, by decide +kernel, by decide +kernel⟩
abbrev s_L_due : Stmt := topS 11
abbrev N_L_due : List Str := ["_law_count", "_law_levels", "_law_least", "_law_ways", "_law_now", "_law_turn", "_law_later", "_law_parts", "_law_rows", "_law_many"]
theorem sc_L_due : FnScope N_L_due ["_law_count", "_law_levels", "_law_least"] (defScope s_L_due) := ⟨rfl, rfl, rfl, by decide +kernel, rfl, by decide +kernel, by decide +kernel⟩
abbrev s_law : Stmt := topS 12
abbrev N_law : List Str := ["_law_script", "_law_drawn", "_law_some", "_law_turn", "_law_count", "_law_levels", "_law_due_here", "_law_strict", "_law_plain"]
theorem sc_law : FnScope N_law ["_law_script"] (defScope s_law) := ⟨rfl, rfl, rfl, by decide +kernel, rfl, by decide +kernel, by decide +kernel⟩
/-! ### the names of the module -/
structure Bi (mg : Str → Option Value) : Prop where
  len : mg "len" = none
  list : mg "list" = none
  int : mg "int" = none
  range : mg "range" = none
  sorted : mg "sorted" = none
  set : mg "set" = none
  tuple : mg "tuple" = none
  min : mg "min" = none
  max : mg "max" = none
  isinstance : mg "isinstance" = none
  bool : mg "bool" = none
  str : mg "str" = none
  all : mg "all" = none
  zip : mg "zip" = none
  repr : mg "repr" = none
  enumerate : mg "enumerate" = none
  abs : mg "abs" = none
  sum : mg "sum" = none
  dict : mg "dict" = none
structure Df (K : PySem.W.Frag) (mg : Str → Option Value) (x : Str) (st : Stmt) (f : Addr) (fd : FuncData) (ps : List Str) : Prop where
  F : Fun K x x st f fd
  b : Binds K fd ps []
  g : mg x = some (.ref f)
section
variable {X : Cx} {k : Nat} {f : Addr} {fd : FuncData} {ps : List Str} {sp : Sp} {x : Str} {p pos : Pos} {e : Expr} {es : List Expr} {t : TA} {st : Stmt}
theorem pe_cl (D : Df X.K X.mg x st f fd ps) (G : FnOk X.prog X.w X.K X.mg X.base CX0 k f fd ps sp) (hr : Room k X.A) (ha : PA X (e :: es) t) (hg : Gl X x := by rfl) (hdb : (x == ("__debug__" : Str)) = false := by decide)
    (he : starEach (e :: es) X.env = (false, eval e X.env) :: starEach es X.env := by rfl) (hpl : (backTo pos (starEach es X.env)).any (·.1) = false := by rfl) : PE X (.Call (.Name x p) (e :: es) [] pos) (tCall sp [] E0 t) :=
  pe_call G hr hg D.g D.F.kp D.b .nil pass0 ha hdb he hpl
theorem pe_len {a : Expr} {ta : TE} (B : Bi X.mg) (ha : PE X a ta) (hg : Gl X "len" := by rfl) (he : starEach [a] X.env = (false, eval a X.env) :: starEach [] X.env := by rfl) :
    PE X (.Call (.Name "len" p) [a] [] pos) (tCB (fun xs H Q => ∃ p ys, xs = [.ref p] ∧ (SqL X.K H p ys ∨ SqT X.K H p ys) ∧ Q (.int ys.length) H) (tCons ta tNil)) :=
  pe_callB call_len_seq hg B.len PySem.boot_len (pa_cons ha pa_nil he) (by decide) (by decide) he
end
section
variable {P : Program} {w : World} {K : PySem.W.Frag} {mg : Str → Option Value} {base : Heap}
/-! ### drawing -/
def sp_next : Sp := fun vs H Q _ => ∃ (d c r : Addr) (n : Nat) (m : Int), vs = [.ref d, .int m] ∧ Dr H d c r n ∧ n ≤ 900000 ∧ 0 < m ∧ m ≤ 1000000000000000000000000000000 ∧
  ∀ (H' : Hp) (k : Nat), (k : Int) < m → Dr H' d c r (n + 1) → Kp d r H H' → Q (.int (k : Int)) H'
theorem ok_next {f : Addr} {fd : FuncData} {k : Nat} (F : Fun K "_law_next" "_law_next" s_L_next f fd) (B : Bi mg) : FnOk P w K mg base CX0 (k + 1) f fd ["_law_drawn", "_law_many"] sp_next := by
  refine F.ok sc_L_next (fun vs H Q E h => ?_) (fun cdv A outer s H vs Q E hr h => ?_)
  · obtain ⟨d, c, r, n, m, rfl, _⟩ := h
    rfl
  · obtain ⟨d, c, r, n, m, rfl, hD, hn, hm0, hm1, q⟩ := h
    have nd := sc_L_next.nd
    refine ⟨_, pss_cons (ps_asg (pv 0) (pg_unl rfl (pgs_cons (pg_name (i := 2) nd rfl (.inl rfl)) (pgs_cons (pg_name (i := 3) nd rfl (.inl rfl)) (pgs_cons (pg_name (i := 4) nd rfl (.inl rfl)) pgs_nil)))))
      (pss_cons (ps_set (i := 5) nd rfl (.inl rfl) (pe_op op_mod (pv 3) (pe_len B (pv 2))))
      (pss_cons (ps_asg (pe_op op_add (pv 3) pe_int) (pg_sub (pv 0) pe_int set_list))
      (pss_cons (ps_if (pt_cmpR op_gt (pe_ix ix_list (pv 4) (pv 5) (fun _ _ => rfl)) pe_int (nomark _))
        (pss_cons (ps_set (i := 6) nd rfl (.inl rfl) (pe_op op_mod (pe_ix ix_list (pv 4) (pv 5) (fun _ _ => rfl)) (pv 1)))
        (pss_cons (ps_asg (pe_op op_fdivW (pe_ix ix_list (pv 4) (pv 5) (fun _ _ => rfl)) (pv 1)) (pg_sub (pv 4) (pv 5) set_list))
        (pss_one (ps_ret (pv 6))))) pss_nil)
      (pss_cons (ps_set (i := 7) nd rfl (.inl rfl) (pe_op op_mod (pe_op op_pow (pe_op op_add (pe_op op_add (pe_op op_mod (pe_ix ix_list (pv 2) (pv 5) (fun _ _ => rfl)) pe_int) (pe_op op_mul pe_int (pv 3))) pe_int) pe_int) pe_int))
      (pss_cons (ps_set (i := 8) nd rfl (.inl rfl) (pe_op op_mod (pe_op op_pow (pe_op op_add (pe_op op_add (pv 7) (pe_op op_mul (pe_op op_mul pe_int (pv 3)) (pv 3))) pe_int) pe_int) pe_int))
      (pss_one (ps_ret (pe_op op_mod (pe_op op_mod (pe_op op_add (pe_op op_mul (pv 8) pe_int) (pv 7)) pe_int) (pv 1))))))))), ?_⟩
    obtain ⟨⟨cells, rests, t, hd, hc, hr', hlen, h0, h64, ht, hpos⟩, dc, dr, cr⟩ := hD
    -- the three names
    refine ⟨.ref d, rfl, d, _, rfl, SqL.of hd, rfl, _, _, rfl, _, _, rfl, _, _, rfl, rfl, ?_⟩
    -- the place
    refine ⟨.int (t : Int), rfl, .ref c, rfl, c, _, rfl, .inl (SqL.of hc), _, _, rfl, rfl, by rw [List.length_map]; omega, ?_⟩
    obtain ⟨sp, hsp⟩ : ∃ sp : Nat, sp = t % cells.length := ⟨_, rfl⟩
    have esp : (t : Int) % ((cells.map V.int).length : Int) = (sp : Int) := by rw [List.length_map, hsp]; exact (Int.natCast_emod t cells.length).symm
    have lsp : sp < cells.length := by rw [hsp]; exact Nat.mod_lt _ h0
    have lsr : sp < rests.length := by omega
    dsimp only
    rw [esp]
    -- one more
    refine ⟨.int (t : Int), rfl, _, _, rfl, rfl, .ref d, rfl, d, _, 1, 1, rfl, rfl, hd, rfl, ?_⟩
    generalize hH1 : upd H d (.lst (List.set [.ref c, .int (t : Int), .ref r] 1 (.int ((t : Int) + 1)))) = H1
    have hd1 : H1 d = some (.lst [.ref c, .int ((t + 1 : Nat) : Int), .ref r]) := by rw [← hH1, upd_same]; rfl
    have hc1 : H1 c = some (.lst (cells.map V.int)) := by rw [← hH1, upd_ne dc.symm]; exact hc
    have hr1 : H1 r = some (.lst (rests.map V.int)) := by rw [← hH1, upd_ne dr.symm]; exact hr'
    have k1 : Kp d r H H1 := fun b o e n1 n2 => by rw [← hH1, upd_ne n1]; exact e
    have er := getD_at lsr
    have rAt : atI (rests.map V.int) (sp : Int) = some (.int (rests.getD sp 0)) := atI_nat (map_at er)
    have ec := getD_at lsp
    have cAt : atI (cells.map V.int) (sp : Int) = some (.int (cells.getD sp 0)) := atI_nat (map_at ec)
    refine ⟨.ref r, rfl, .int (sp : Int), rfl, r, _, _, _, rfl, rfl, SqL.of hr1, rAt, _, _, rfl, rfl, _, rfl, ite2 (fun hg => ?_) (fun hg => ?_)⟩
    · have hg : (0 : Int) < rests.getD sp 0 := of_decide_eq_true hg
      refine ⟨.ref r, rfl, .int (sp : Int), rfl, r, _, _, _, rfl, rfl, SqL.of hr1, rAt, .int m, rfl, _, _, rfl, rfl, hm0, ?_⟩
      refine ⟨.ref r, rfl, .int (sp : Int), rfl, r, _, _, _, rfl, rfl, SqL.of hr1, rAt, .int m, rfl, _, _, rfl, rfl, wide_div (b := 128) hm0 (by omega) (by decide) (by decide), ?_⟩
      refine ⟨.ref r, rfl, .int (sp : Int), rfl, r, _, _, sp, rfl, rfl, hr1, ixN_at (by rw [List.length_map]; exact lsr), ?_⟩
      refine ⟨_, rfl, ?_⟩
      have hz := Int.emod_nonneg (rests.getD sp 0) (by omega : m ≠ 0)
      have hl := Int.emod_lt_of_pos (rests.getD sp 0) hm0
      dsimp only
      rw [show rests.getD sp 0 % m = ((rests.getD sp 0 % m).toNat : Int) from (Int.toNat_of_nonneg hz).symm]
      refine q _ _ (by omega) ⟨⟨cells, rests.set sp (rests.getD sp 0 / m), t + 1, ?_, ?_, ?_, ?_, h0, h64, by omega, ?_⟩, dc, dr, cr⟩ ?_
      · rw [upd_ne dr]; exact hd1
      · rw [upd_ne cr]; exact hc1
      · rw [upd_same, List.map_set]
      · rw [List.length_set]; exact hlen
      · intro x hx
        rcases List.mem_or_eq_of_mem_set hx with hx | hx
        · exact hpos x hx
        · rw [hx]; exact Int.ediv_nonneg (Int.le_of_lt hg) (Int.le_of_lt hm0)
      · intro b o e n1 n2
        rw [upd_ne n2]
        exact k1 b o e n1 n2
    · have ht6 : t ≤ 900000 := Nat.le_trans ht hn
      have htt : t * t ≤ 900000 * 900000 := Nat.mul_le_mul ht6 ht6
      have httI : (t : Int) * (t : Int) ≤ 900000 * 900000 := Int.mul_le_mul (by omega) (by omega) (by omega) (by omega)
      have htt0 : (0 : Int) ≤ (t : Int) * (t : Int) := Int.mul_nonneg (by omega) (by omega)
      have c0 := Int.emod_nonneg (cells.getD sp 0) (show (2147483629 : Int) ≠ 0 by decide)
      have c1 := Int.emod_lt_of_pos (cells.getD sp 0) (show (0 : Int) < 2147483629 by decide)
      refine ⟨.ref c, rfl, .int (sp : Int), rfl, c, _, _, _, rfl, rfl, SqL.of hc1, cAt, _, _, rfl, rfl, (by show (0 : Int) < 2147483629; decide), .int (t : Int), rfl, _, _, rfl, rfl, .inl ⟨by decide, by decide⟩, _, _, rfl, rfl, _, _, rfl, rfl, _, _, rfl, rfl, ⟨by decide, by decide, by omega⟩, _, _, rfl, rfl, (by show (0 : Int) < 2147483587; decide), ?_⟩
      generalize hX : (cells.getD sp 0 % 2147483629 + 48611 * (t : Int) + 12007) ^ ((3 : Int).toNat) = X3
      have m0 := Int.emod_nonneg X3 (show (2147483587 : Int) ≠ 0 by decide)
      have m1 := Int.emod_lt_of_pos X3 (show (0 : Int) < 2147483587 by decide)
      have e3 : 6007 * (t : Int) * (t : Int) = 6007 * ((t : Int) * (t : Int)) := Int.mul_assoc _ _ _
      refine ⟨.int (X3 % 2147483587), rfl, .int (t : Int), rfl, _, _, rfl, rfl, .inl ⟨by decide, by decide⟩, .int (t : Int), rfl, _, _, rfl, rfl, .inr ⟨by omega, by omega⟩, _, _, rfl, rfl, _, _, rfl, rfl, _, _, rfl, rfl, ⟨by decide, by decide, by omega⟩, _, _, rfl, rfl, (by show (0 : Int) < 2147483563; decide), ?_⟩
      generalize hY : (X3 % 2147483587 + 6007 * (t : Int) * (t : Int) + 53) ^ ((3 : Int).toNat) = Y3
      refine ⟨.int (Y3 % 2147483563), rfl, _, _, rfl, rfl, .inr ⟨by decide, by decide⟩, .int (X3 % 2147483587), rfl, _, _, rfl, rfl, _, _, rfl, rfl, (by show (0 : Int) < 4611686018427387847; decide), .int m, rfl, _, _, rfl, rfl, hm0, ?_⟩
      generalize hZ : (Y3 % 2147483563 * 2147483423 + X3 % 2147483587) % 4611686018427387847 = Z
      have hz := Int.emod_nonneg Z (by omega : m ≠ 0)
      have hl := Int.emod_lt_of_pos Z hm0
      dsimp only
      rw [show Z % m = ((Z % m).toNat : Int) from (Int.toNat_of_nonneg hz).symm]
      exact q _ _ (by omega) ⟨⟨cells, rests, t + 1, hd1, hc1, hr1, hlen, h0, h64, by omega, hpos⟩, dc, dr, cr⟩ k1
end
section
variable {P : Program} {w : World} {K : PySem.W.Frag} {mg : Str → Option Value} {base : Heap}
def sp_one (K : PySem.W.Frag) : Sp := fun vs H Q _ => ∃ (d c r : Addr) (n : Nat) (l : Addr) (xs : List V), vs = [.ref d, .ref l] ∧ Dr H d c r n ∧ n ≤ 900000 ∧ SqL K H l xs ∧ l ≠ d ∧ l ≠ r ∧ 0 < xs.length ∧ xs.length ≤ 1000 ∧
  ∀ (H' : Hp) (i : Nat) (v : V), xs[i]? = some v → Dr H' d c r (n + 1) → Kp d r H H' → Q v H'
theorem ok_one {f fN : Addr} {fd fdN : FuncData} (F : Fun K "_law_one" "_law_one" s_L_one f fd) (DN : Df K mg "_law_next" s_L_next fN fdN ["_law_drawn", "_law_many"]) (B : Bi mg) : FnOk P w K mg base CX0 2 f fd ["_law_drawn", "_law_items"] (sp_one K) := by
  have GN : FnOk P w K mg base CX0 1 fN fdN ["_law_drawn", "_law_many"] sp_next := ok_next DN.F B
  refine F.ok sc_L_one (fun vs H Q E h => ?_) (fun cdv A outer s H vs Q E hr h => ?_)
  · obtain ⟨d, c, r, n, l, xs, rfl, _⟩ := h
    rfl
  · obtain ⟨d, c, r, n, l, xs, rfl, hD, hn, hl, ld, lr, h0, h1, q⟩ := h
    refine ⟨_, pss_one (ps_ret (pe_ix ix_list (pv 1) (pe_cl DN GN hr (pa_cons (pv 0) (pa_cons (pe_len B (pv 1)) pa_nil))) (fun _ _ => rfl))), ?_⟩
    refine ⟨.ref l, rfl, .ref d, rfl, .ref l, rfl, l, xs, rfl, .inl hl, d, c, r, n, _, rfl, hD, hn, by omega, by omega, fun H' k hk hD' kp => ?_⟩
    have hk' : k < xs.length := by omega
    exact ⟨l, xs, k, xs[k], rfl, rfl, kp.sqL ld lr hl, atI_nat (List.getElem?_eq_getElem hk'), q H' k _ (List.getElem?_eq_getElem hk') hD' kp⟩
end
/-! ### a def with one keyword-only parameter -/
structure KoDf (K : PySem.W.Frag) (mg : Str → Option Value) (x : Str) (st : Stmt) (f : Addr) (fd : FuncData) (kws : List (Str × V)) : Prop where
  F : FunD K x x (defArgs st) (defBody st) (defScope st) [] kws f fd
  g : mg x = some (.ref f)
theorem kd_mk {K : PySem.W.Frag} {h : Heap} {mg : Str → Option Value} {x y : Str} {st : Stmt} {f D : Addr} {od an : Option Addr} {sl : Array (Option Value)} {oc dc pm cd ct : Value} {b : Bool} (X : K.In h) (G : h.Ns mainGlobals mg)
    (a : PySem.W.nsIn K mainGlobals x = some (some (.ref f))) (l : K.lookup f = some ⟨oc, od, .func (PySem.W.fnOf x x (defArgs st) (defBody st) (defScope st) .none (.ref D) dc pm an cd ct), sl⟩) (c : PySem.W.codeIn K cd x = true) (k : PySem.W.keepIn K (.ref f) = true) (e : PySem.W.nsIn K D y = some (some (.bool b))) :
    KoDf K mg x st f (PySem.W.fnOf x x (defArgs st) (defBody st) (defScope st) .none (.ref D) dc pm an cd ct) [(y, .bl b)] :=
  ⟨⟨⟨oc, od, .none, .ref D, dc, pm, an, cd, ct, sl, rfl, l, c, .inl ⟨rfl, rfl⟩, .inr ⟨D, rfl, fun q hq => by rw [List.mem_singleton.mp hq]; exact ⟨_, e, rfl⟩⟩⟩, k⟩, PySem.W.mg_of X G a⟩
def kg3 {α : Type} : List α → List α → List α
  | [a, b], [c] => [a, b, c]
  | _, _ => []
theorem kg3_rel {vs : List V} {us : List Value} {zs : List V} {ws : List Value} (h : Vals vs us) (h2 : Vals zs ws) : Vals (kg3 vs zs) (kg3 us ws) := by
  cases h with
  | nil => cases h2 <;> exact .nil
  | cons r1 t1 =>
    cases t1 with
    | nil => cases h2 <;> exact .nil
    | cons r2 t2 =>
      cases t2 with
      | nil =>
        cases h2 with
        | nil => exact .nil
        | cons r3 t3 =>
          cases t3 with
          | nil => exact .cons r1 (.cons r2 (.cons r3 .nil))
          | cons _ _ => exact .nil
      | cons _ _ => cases h2 <;> exact .nil
section
variable {P : Program} {w : World} {K : PySem.W.Frag} {mg : Str → Option Value} {base : Heap}
/-! ### lists of ints by places -/
abbrev fl (f : Nat → Int) (n : Nat) : List V := ((List.range n).map f).map V.int
theorem fl_len (f : Nat → Int) (n : Nat) : (fl f n).length = n := by simp
theorem fl_at (f : Nat → Int) {n i : Nat} (h : i < n) : (fl f n)[i]? = some (.int (f i)) := range_at f h
theorem fl_succ (f : Nat → Int) (n : Nat) : fl f (n + 1) = fl f n ++ [.int (f n)] := by
  show ((List.range (n + 1)).map f).map V.int = _
  rw [range_map_succ, List.map_append]
  rfl
theorem fl_one (f : Nat → Int) : fl f 1 = [.int (f 0)] := rfl
theorem fl_congr {f g : Nat → Int} {n : Nat} (h : ∀ i, i < n → f i = g i) : fl f n = fl g n := by
  induction n with
  | zero => rfl
  | succ n ih => rw [fl_succ, fl_succ, ih fun i hi => h i (by omega), h n (by omega)]
abbrev N0 (l k : Nat) : Int := (tb nTab l k : Int)
/-! ### choices -/
def sp_chosen : Sp := fun vs H Q _ => ∃ c s : Nat, vs = [.int (c : Int), .int (s : Int)] ∧ c ≤ 12 ∧ s ≤ c ∧ Q (.int (tb cTab c s : Int)) H
theorem ch_le {c k : Nat} (h : c ≤ 12) (hk : k ≤ c) : ch c k < 2 ^ 32 := by
  rw [tab_C c (by omega) k (by omega)]
  exact tab_Cle c (by omega) k (by omega)
theorem ok_chosen {f : Addr} {fd : FuncData} {k : Nat} (F : Fun K "chosen" "chosen" s_chosen f fd) (B : Bi mg) : FnOk P w K mg base CX0 (k + 1) f fd ["count", "size"] sp_chosen := by
  refine F.ok sc_chosen (fun vs H Q E h => ?_) (fun cdv A outer s H vs Q E hr h => ?_)
  · obtain ⟨c, s, rfl, _⟩ := h
    rfl
  · obtain ⟨c, sz, rfl, h12, hs, q⟩ := h
    have nd := sc_chosen.nd
    refine ⟨_, pss_cons (ps_set (i := 2) nd rfl (.inl rfl) pe_int)
      (pss_cons (ps_for PassesOwn.never rfl (pi_range1 rfl B.range (pa_cons (pv 1) pa_nil)) (pg_name (i := 3) nd rfl (.inl rfl))
        (pss_one (ps_set (i := 2) nd rfl (.inl rfl) (pe_op op_fdiv (pe_op op_mul (pv 2) (pe_op op_sub (pv 0) (pv 3))) (pe_op op_add (pv 3) pe_int)))))
      (pss_one (ps_ret (pv 2)))), ?_⟩
    refine ⟨.int (sz : Int), rfl, _, rfl, by omega, by omega, for_range (n := (sz : Int).toNat) (fun i σ Hx => ∃ x3, σ = [some (.int (c : Int)), some (.int (sz : Int)), some (.int (ch c i : Int)), x3] ∧ Hx = H) ⟨none, rfl, rfl⟩ (fun i σ Hx hi hI => ?_) (fun σ Hx hI => ?_)⟩
    · obtain ⟨x3, rfl, rfl⟩ := hI
      rw [Int.zero_add]
      show _
      have hb := ch_le (c := c) (k := i) h12 (by omega)
      refine ⟨.int (ch c i : Int), rfl, .int (c : Int), rfl, .int (i : Int), rfl, _, _, rfl, rfl, _, _, rfl, rfl, .inl ⟨by omega, by omega⟩, .int (i : Int), rfl, _, _, rfl, rfl, _, _, rfl, rfl, ⟨by omega, by omega⟩, ?_⟩
      refine ⟨some (.int (i : Int)), ?_, rfl⟩
      have e : (ch c i : Int) * ((c : Int) - (i : Int)) / ((i : Int) + 1) = (ch c (i + 1) : Int) := by
        show _ = ((ch c i * (c - i) / (i + 1) : Nat) : Int)
        rw [Int.natCast_ediv, Int.natCast_mul, Int.ofNat_sub (by omega)]
        rfl
      exact congrArg (fun z : Int => [some (V.int (c : Int)), some (.int (sz : Int)), some (.int z), some (.int (i : Int))]) e
    · obtain ⟨x3, rfl, rfl⟩ := hI
      refine ⟨_, rfl, ?_⟩
      rw [tab_C c (by omega) _ (by omega)]
      exact q
/-! ### one level more -/
def sp_wfl (K : PySem.W.Frag) : Sp := fun vs H Q _ => ∃ (a : Addr) (l c : Nat), vs = [.ref a] ∧ SqL K H a (fl (N0 l) (c + 1)) ∧ l < 60 ∧ 1 ≤ c ∧ c ≤ 12 ∧
  ∀ (H' : Hp) (p : Addr), Sm H H' → H p = none → H' p = some (.lst (fl (N0 (l + 1)) (c + 1))) → Q (.ref p) H'
theorem ok_wfl {f fC : Addr} {fd fdC : FuncData} {k : Nat} (F : Fun K "with_further_level" "with_further_level" s_with_further_level f fd) (DC : Df K mg "chosen" s_chosen fC fdC ["count", "size"]) (B : Bi mg) : FnOk P w K mg base CX0 (k + 2) f fd ["numbers"] (sp_wfl K) := by
  have GC : FnOk P w K mg base CX0 (k + 1) fC fdC ["count", "size"] sp_chosen := ok_chosen DC.F B
  refine F.ok sc_with_further_level (fun vs H Q E h => ?_) (fun cdv A outer s H vs Q E hr h => ?_)
  · obtain ⟨a, l, c, rfl, _⟩ := h
    rfl
  · obtain ⟨a, l, c, rfl, hS, hl, h1, h12, q⟩ := h
    have nd := sc_with_further_level.nd
    refine ⟨_, pss_cons (ps_set (i := 1) nd rfl (.inr rfl) (pe_lst (pa_cons pe_int pa_nil)))
      (pss_cons (ps_for PassesOwn.never rfl (pi_range2 rfl B.range (pa_cons pe_int (pa_cons (pe_len B (pv 0)) pa_nil))) (pg_name (i := 2) nd rfl (.inr rfl))
        (pss_one (ps_expr (pe_bm PySem.F.plainAttrs_list PySem.F.slot_list_append PySem.F.type_list_append mt_append (pv 1) (pa_cons
          (pe_callB (cr_sum rfl) (by rfl) B.sum (by decide +kernel) (pa_cons
            (pe_lc (own := [("others", 3)]) (g := gName 3) (tt := tYes) rfl nd (pi_range1 rfl B.range (pa_cons (pv 2) pa_nil)) (blkOk_by (N := N_with_further_level) (sc := defScope s_with_further_level) (by decide +kernel))
              (fun _ _ _ _ _ => pg_name (i := 3) nd rfl (.inl rfl)) (fun _ _ _ _ _ => pts_nil)
              (fun _ _ _ _ _ => pe_op op_mulW (pe_op op_mul (pe_cl DC GC hr (pa_cons (pe_op op_sub (pv 2) pe_int) (pa_cons (pv 3) pa_nil))) (pe_ix (ixK K rfl) (pv 0) (pe_op op_add (pv 3) pe_int) (fun _ _ => rfl)))
                (pe_ix (ixK K rfl) (pv 1) (pe_op op_sub (pe_op op_sub (pv 2) pe_int) (pv 3)) (fun _ _ => rfl)))) pa_nil)) pa_nil)))))
      (pss_one (ps_ret (pv 1)))), ?_⟩
    refine ⟨(by show 1 ≤ sizeLine; decide), fun o ho => ?_⟩
    have s0 : Sm H (upd H o (.lst [.int 1])) := Sm.new ho
    have z0 : (1 : Int) = N0 (l + 1) 0 := by
      show (1 : Int) = ((tb nTab (l + 1) 0 : Nat) : Int)
      rw [tab_0 (l + 1) (by omega)]
      rfl
    refine ⟨.ref a, rfl, a, _, rfl, .inl (s0.sqL hS), _, _, rfl, ⟨by decide, by decide, by rw [fl_len]; omega, by rw [fl_len]; omega⟩, ?_⟩
    have en : (((fl (N0 l) (c + 1)).length : Int) - 1).toNat = c := by rw [fl_len]; omega
    rw [en]
    refine for_range (n := c) (fun i σ Hx => ∃ x2, σ = [some (.ref a), some (.ref o), x2, none] ∧ Hx o = some (.lst (fl (N0 (l + 1)) (i + 1))) ∧ Sm H Hx) ⟨none, rfl, by rw [fl_one, ← z0]; exact upd_same, s0⟩ (fun i σ Hx hi hI => ?_) (fun σ Hx hI => ?_)
    · obtain ⟨x2, rfl, ho1, sx⟩ := hI
      rw [show (1 : Int) + (i : Int) = ((i + 1 : Nat) : Int) by omega]
      show _
      refine ⟨.ref o, rfl, .inl ⟨rfl, _, SqL.of ho1⟩, .int ((i + 1 : Nat) : Int), rfl, _, rfl, by omega, by omega, fun D hDn => ?_⟩
      have e1 : (((i + 1 : Nat) : Int)).toNat = i + 1 := by omega
      rw [e1]
      have nDo : o ≠ D := ne_of_none ho1 hDn
      refine lc_range (n := i + 1) (lo := 0) (fun j Hy => Hy D = some (.lst (fl (fun o => (tb cTab i o : Int) * N0 l (o + 1) * N0 (l + 1) (i - o)) j)) ∧ Sm Hx Hy) ⟨upd_same, Sm.new hDn⟩ (fun j Hy hj hP => ?_) (fun Hy hP => ?_)
      · obtain ⟨g1, g2⟩ := hP
        rw [Int.zero_add]
        have n1 := tab_le l (by omega) (j + 1) (by omega)
        have n2 := tab_le (l + 1) (by omega) (i - j) (by omega)
        have n3 := tab_Cle i (by omega) j (by omega)
        refine ⟨rfl, .int ((i + 1 : Nat) : Int), rfl, _, _, rfl, rfl, .int (j : Int), rfl, i, j, ?_, by omega, by omega, ?_⟩
        · exact congrArg (fun z : Int => [V.int z, .int (j : Int)]) (show ((i + 1 : Nat) : Int) - 1 = (i : Int) by omega)
        refine ⟨.ref a, rfl, .int (j : Int), rfl, _, _, rfl, rfl, a, _, _, _, rfl, rfl, (sx.trans g2).sqL hS, at_of (j + 1) (by omega) (fl_at (N0 l) (by omega)), ?_⟩
        refine ⟨_, _, rfl, rfl, .inl ⟨by omega, by omega⟩, .ref o, rfl, .int ((i + 1 : Nat) : Int), rfl, _, _, rfl, rfl, .int (j : Int), rfl, _, _, rfl, rfl, o, _, _, _, rfl, rfl, SqL.of (g2 _ _ ho1), at_of (i - j) (by omega) (fl_at (N0 (l + 1)) (by omega)), ?_⟩
        refine ⟨_, _, rfl, rfl, wide_mul (a := 232) (b := 200) ?_ ?_ (by decide) (by decide) (by decide), ?_⟩
        · exact wide_lt (a := 32) (b := 200) (by rw [Int.natAbs_natCast]; exact n3) (by rw [Int.natAbs_natCast]; exact n1)
        · rw [Int.natAbs_natCast]; exact n2
        refine ⟨_, g1, by rw [fl_len]; exact small1000 (by omega), ?_, ?_⟩
        · rw [fl_succ]
          exact upd_same
        · intro b u e
          rw [upd_ne (ne_of_none e hDn)]
          exact g2 b u e
      · obtain ⟨g1, g2⟩ := hP
        refine ⟨D, _, rfl, SqL.of g1, o, _, _, rfl, rfl, g2 _ _ ho1, by rw [fl_len]; exact small1000 (by omega), _, rfl, ?_, ?_⟩
        · rw [upd_same, fl_succ (N0 (l + 1)) (i + 1)]
          have es : ((List.range (i + 1)).map (fun o => (tb cTab i o : Int) * N0 l (o + 1) * N0 (l + 1) (i - o))).sum = N0 (l + 1) (i + 1) := by
            rw [sumI_range]
            show _ = ((tb nTab (l + 1) (i + 1) : Nat) : Int)
            rw [tab_A l hl i (by omega), ← sumI_cast]
            exact sumI_congr fun k _ => by rw [Int.natCast_mul, Int.natCast_mul]
          rw [es]
        · intro b u e
          rw [upd_ne (ne_of_none e ho)]
          exact g2 _ _ (sx b u e)
    · obtain ⟨x2, rfl, ho1, sx⟩ := hI
      exact ⟨_, rfl, q Hx o sx ho ho1⟩
/-! ### by levels -/
def sp_cbl (K : PySem.W.Frag) : Sp := fun vs H Q _ => ∃ (c L : Nat), vs = [.int (c : Int), .int (L : Int)] ∧ 1 ≤ c ∧ c ≤ 12 ∧ L ≤ 60 ∧
  ∀ (H' : Hp) (p : Addr), Sm H H' → H p = none → H' p = some (.lst (fl (fun l => N0 l c) (L + 1))) → Q (.ref p) H'
theorem flat1 (v : V) (k : Nat) : (List.replicate k [v]).flatten = List.replicate k v := by
  induction k with
  | zero => rfl
  | succ k ih => rw [List.replicate_succ, List.flatten_cons, ih]; rfl
theorem start_row {c : Nat} (h1 : 1 ≤ c) (h12 : c ≤ 12) : [V.int 1, V.int 1] ++ List.replicate (c - 1) (V.int 0) = fl (N0 0) (c + 1) := by
  match c, h1, h12 with
  | 1, _, _ => rfl
  | 2, _, _ => rfl
  | 3, _, _ => rfl
  | 4, _, _ => rfl
  | 5, _, _ => rfl
  | 6, _, _ => rfl
  | 7, _, _ => rfl
  | 8, _, _ => rfl
  | 9, _, _ => rfl
  | 10, _, _ => rfl
  | 11, _, _ => rfl
  | 12, _, _ => rfl
theorem ok_cbl {f fC fW : Addr} {fd fdC fdW : FuncData} {k : Nat} (F : Fun K "counts_by_levels" "counts_by_levels" s_counts_by_levels f fd) (DC : Df K mg "chosen" s_chosen fC fdC ["count", "size"]) (DW : Df K mg "with_further_level" s_with_further_level fW fdW ["numbers"]) (B : Bi mg) : FnOk P w K mg base CX0 (k + 3) f fd ["count", "levels"] (sp_cbl K) := by
  have GW : FnOk P w K mg base CX0 (k + 2) fW fdW ["numbers"] (sp_wfl K) := ok_wfl DW.F DC B
  refine F.ok sc_counts_by_levels (fun vs H Q E h => ?_) (fun cdv A outer s H vs Q E hr h => ?_)
  · obtain ⟨c, L, rfl, _⟩ := h
    rfl
  · obtain ⟨c, L, rfl, h1, h12, hL, q⟩ := h
    have nd := sc_counts_by_levels.nd
    refine ⟨_, pss_cons (ps_set (i := 2) nd rfl (.inl rfl) (pe_op op_cat (pe_lst (pa_cons pe_int (pa_cons pe_int pa_nil))) (pe_op op_rep (pe_lst (pa_cons pe_int pa_nil)) (pe_op op_sub (pv 0) pe_int))))
      (pss_cons (ps_set (i := 3) nd rfl (.inl rfl) (pe_lst (pa_cons (pe_ix ix_list (pv 2) (pv 0) (fun _ _ => rfl)) pa_nil)))
      (pss_cons (ps_while PassesOwn.never (pt_cmpR op_le (pe_len B (pv 3)) (pv 1) (nomark _))
        (pss_cons (ps_set (i := 2) nd rfl (.inl rfl) (pe_cl DW GW hr (pa_cons (pv 2) pa_nil)))
        (pss_one (ps_expr (pe_bm PySem.F.plainAttrs_list PySem.F.slot_list_append PySem.F.type_list_append mt_append (pv 3) (pa_cons (pe_ix ix_list (pv 2) (pv 0) (fun _ _ => rfl)) pa_nil))))))
      (pss_one (ps_ret (pv 3))))), ?_⟩
    refine ⟨(by show 2 ≤ sizeLine; decide), fun o1 ho1 => ⟨(by show 1 ≤ sizeLine; decide), fun o2 ho2 => ?_⟩⟩
    have s2 := (Sm.new (o := .lst [.int 1, .int 1]) ho1).trans (Sm.new (o := .lst [.int 0]) ho2)
    refine ⟨.int (c : Int), rfl, _, _, rfl, rfl, o2, _, _, rfl, rfl, upd_same, by omega, by omega, ?_, fun o3 ho3 => ?_⟩
    · show 1 * ((c : Int) - 1).toNat ≤ sizeLine
      exact Nat.le_of_lt (small1000 (by omega))
    rw [flat1, show ((c : Int) - 1).toNat = c - 1 by omega]
    have s3 := s2.trans (Sm.new (o := .lst (List.replicate (c - 1) (.int 0))) ho3)
    refine ⟨o1, o3, _, _, rfl, rfl, ((Sm.new (o := .lst [.int 0]) ho2).trans (Sm.new ho3)) _ _ upd_same, upd_same, ?_, fun o4 ho4 => ?_⟩
    · rw [List.length_replicate]
      exact Nat.le_of_lt (small1000 (show 2 + (c - 1) ≤ 1000 by omega))
    rw [start_row h1 h12]
    have s4 := s3.trans (Sm.new (o := .lst (fl (N0 0) (c + 1))) ho4)
    refine ⟨.ref o4, rfl, .int (c : Int), rfl, o4, _, _, _, rfl, rfl, SqL.of upd_same, atI_nat (fl_at (N0 0) (by omega)), (by show 1 ≤ sizeLine; decide), fun o5 ho5 => ?_⟩
    have a4 : upd (upd (upd (upd H o1 (.lst [.int 1, .int 1])) o2 (.lst [.int 0])) o3 (.lst (List.replicate (c - 1) (.int 0)))) o4 (.lst (fl (N0 0) (c + 1))) o4 = some (.lst (fl (N0 0) (c + 1))) := upd_same
    have s5 := s4.trans (Sm.new (o := .lst [.int (N0 0 c)]) ho5)
    have a5 := Sm.new (o := .lst [.int (N0 0 c)]) ho5 _ _ a4
    have n5 : H o5 = none := s4.free ho5
    refine ⟨fun m σ Hx => ∃ (t : Nat) (nn : Addr), m = L - t ∧ t ≤ L ∧ σ = [some (.int (c : Int)), some (.int (L : Int)), some (.ref nn), some (.ref o5)] ∧ Hx o5 = some (.lst (fl (fun l => N0 l c) (t + 1))) ∧ Hx nn = some (.lst (fl (N0 t) (c + 1))) ∧ Sm H Hx, ⟨L, 0, o4, rfl, Nat.zero_le _, rfl, upd_same, a5, s5⟩, fun m σ Hx hI => ?_⟩
    obtain ⟨t, nn, rfl, ht, rfl, b1, b2, sx⟩ := hI
    refine ⟨.ref o5, rfl, o5, _, rfl, .inl (SqL.of b1), .int (L : Int), rfl, _, _, rfl, rfl, _, rfl, ite2 (fun hg => ?_) (fun hg => ?_)⟩
    · have hg := of_decide_eq_true hg
      rw [fl_len] at hg
      have htL : t < L := by omega
      refine ⟨fun σ' H' => ∃ nn, σ' = [some (.int (c : Int)), some (.int (L : Int)), some (.ref nn), some (.ref o5)] ∧ H' o5 = some (.lst (fl (fun l => N0 l c) (t + 1 + 1))) ∧ H' nn = some (.lst (fl (N0 (t + 1)) (c + 1))) ∧ Sm H H', fun σ' H' hN => ?_, ?_⟩
      · obtain ⟨n2, y1, y2, y3, y4⟩ := hN
        exact ⟨L - (t + 1), by omega, t + 1, n2, rfl, htL, y1, y2, y3, y4⟩
      refine ⟨.ref nn, rfl, nn, t, c, rfl, SqL.of b2, by omega, h1, h12, fun H2 p2 sm2 np2 hp2 => ?_⟩
      have b12 := sm2 _ _ b1
      refine ⟨.ref o5, rfl, .inl ⟨rfl, _, SqL.of b12⟩, .ref p2, rfl, .int (c : Int), rfl, p2, _, _, _, rfl, rfl, SqL.of hp2, atI_nat (fl_at (N0 (t + 1)) (by omega)), o5, _, _, rfl, rfl, b12, by rw [fl_len]; exact small1000 (by omega), p2, rfl, ?_, ?_, ?_⟩
      · rw [upd_same, fl_succ _ (t + 1)]
      · rw [upd_ne (ne_of_none b1 np2).symm]
        exact hp2
      · intro b u e
        rw [upd_ne (ne_of_none e n5)]
        exact sm2 _ _ (sx b u e)
    · have hg : ¬ _ := fun z => hg (decide_eq_true z)
      rw [fl_len] at hg
      obtain rfl : t = L := by omega
      exact ⟨_, rfl, q Hx o5 sx n5 b1⟩
/-! ### the count -/
def sp_cn (K : PySem.W.Frag) : Sp := fun vs H Q _ => ∃ (c L : Nat) (ev : Bool), vs = [.int (c : Int), .int (L : Int), .bl ev] ∧ 1 ≤ c ∧ c ≤ 12 ∧ L ≤ 60 ∧
  ∀ (H' : Hp), Sm H H' → Q (.int (if ev = true then Df' L 0 c else N0 L c)) H'
theorem cut_fl (f : Nat → Int) (n : Nat) : cutV (fl f (n + 1)) (some 1) none = fl (fun i => f (i + 1)) n := by
  rw [show (1 : Int) = ((1 : Nat) : Int) from rfl, cut_from]
  show (((List.range (n + 1)).map f).map V.int).drop 1 = _
  rw [List.range_succ_eq_map]
  simp [fl, Function.comp_def]
theorem ok_cn {f fC fW fB : Addr} {fd fdC fdW fdB : FuncData} {k : Nat} {kws : List (Str × V)} (F : FunD K "count_nested" "count_nested" (defArgs s_count_nested) (defBody s_count_nested) (defScope s_count_nested) [] kws f fd) (DC : Df K mg "chosen" s_chosen fC fdC ["count", "size"]) (DW : Df K mg "with_further_level" s_with_further_level fW fdW ["numbers"]) (DB : Df K mg "counts_by_levels" s_counts_by_levels fB fdB ["count", "levels"]) (B : Bi mg) :
    FnOk P w K mg base CX0 (k + 4) f fd ["count", "levels", "every"] (sp_cn K) := by
  have GB : FnOk P w K mg base CX0 (k + 3) fB fdB ["count", "levels"] (sp_cbl K) := ok_cbl DB.F DC DW B
  refine F.ok (CX := CX0) sc_count_nested (fun vs H Q E h => ?_) (fun cdv A outer s H vs Q E hr h => ?_)
  · obtain ⟨c, L, ev, rfl, _⟩ := h
    rfl
  · obtain ⟨c, L, ev, rfl, h1, h12, hL, q⟩ := h
    have nd := sc_count_nested.nd
    refine ⟨_, PSs.nox (pss_cons (ps_set (i := 3) nd rfl (.inl rfl) (pe_cl DB GB hr (pa_cons (pv 0) (pa_cons (pv 1) pa_nil))))
      (pss_cons (ps_if (pt_not (pt_val (pv 2))) (pss_one (ps_ret (pe_ix ix_list (pv 3) (pv 1) (fun _ _ => rfl)))) pss_nil)
      (pss_cons (ps_while PassesOwn.never (pt_cmpR op_gt (pe_len B (pv 3)) pe_int (nomark _))
        (pss_one (ps_setLc (i := 3) (own := [("fewer", 4), ("more", 5)]) (g := gTup K 2 (gCons (gName 4) (gCons (gName 5) gNil))) (tt := tYes) rfl nd rfl rfl (sw_true rfl rfl rfl (by decide +kernel)) (pi_zip (by rfl) B.zip (pa_cons (pv 3) (pa_cons (pe_slice sl_list (pv 3) (po_some pe_int) po_none) pa_nil))) (blkOk_by (N := N_count_nested) (sc := defScope s_count_nested) (by decide +kernel))
          (fun _ _ _ _ _ => pg_tup rfl (pgs_cons (pg_name (i := 4) nd rfl (.inl rfl)) (pgs_cons (pg_name (i := 5) nd rfl (.inl rfl)) pgs_nil))) (fun _ _ _ _ _ => pts_nil)
          (fun _ _ _ _ _ => pe_op op_sub (pv 5) (pv 4)))))
      (pss_one (ps_ret (pe_ix ix_list (pv 3) pe_int (fun _ _ => rfl))))))), ?_⟩
    refine ⟨.int (c : Int), rfl, .int (L : Int), rfl, c, L, rfl, h1, h12, hL, fun H1 o s1 no ho => ?_⟩
    refine ⟨.bl ev, rfl, ev, rfl, ?_⟩
    cases ev with
    | false => exact ⟨.ref o, rfl, .int (L : Int), rfl, o, _, _, _, rfl, rfl, SqL.of ho, atI_nat (fl_at (fun l => N0 l c) (by omega)), q H1 s1⟩
    | true =>
      show _
      have e0 : fl (fun l => N0 l c) (L + 1) = fl (fun l => Df' 0 l c) (L - 0 + 1) := fl_congr fun l _ => by
        show ((tb nTab l c : Nat) : Int) = ((Nu l c : Nat) : Int)
        unfold Nu
        rw [if_neg (by omega)]
      rw [e0] at ho
      refine ⟨fun m σ Hx => ∃ (t : Nat) (nn : Addr), m = L - t ∧ t ≤ L ∧ σ = [some (.int (c : Int)), some (.int (L : Int)), some (.bl true), some (.ref nn), none, none] ∧ Hx nn = some (.lst (fl (fun l => Df' t l c) (L - t + 1))) ∧ Sm H Hx, ⟨L, 0, o, rfl, Nat.zero_le _, rfl, ho, s1⟩, fun m σ Hx hI => ?_⟩
      obtain ⟨t, nn, rfl, ht, rfl, b1, sx⟩ := hI
      refine ⟨.ref nn, rfl, nn, _, rfl, .inl (SqL.of b1), _, _, rfl, rfl, _, rfl, ite2 (fun hg => ?_) (fun hg => ?_)⟩
      · have hg := of_decide_eq_true hg
        rw [fl_len] at hg
        have htL : t < L := by omega
        obtain ⟨j, hj⟩ : ∃ j, L - t = j + 1 := ⟨L - t - 1, by omega⟩
        rw [hj] at b1
        refine ⟨fun σ' H' => ∃ nn, σ' = [some (.int (c : Int)), some (.int (L : Int)), some (.bl true), some (.ref nn), none, none] ∧ H' nn = some (.lst (fl (fun l => Df' (t + 1) l c) (j + 1))) ∧ Sm H H', fun σ' H' hN => ?_, ?_⟩
        · obtain ⟨n2, y1, y2, y3⟩ := hN
          exact ⟨L - (t + 1), by omega, t + 1, n2, rfl, htL, y1, by rw [show L - (t + 1) = j by omega]; exact y2, y3⟩
        refine ⟨.ref nn, rfl, .ref nn, rfl, _, rfl, nn, _, rfl, SqL.of b1, fun p hp => ?_⟩
        rw [cut_fl]
        have sp := Sm.new (o := .lst (fl (fun i => Df' t (i + 1) c) (j + 1))) hp
        refine ⟨nn, p, _, _, rfl, SqL.of (sp _ _ b1), SqL.of upd_same, fun D hD => ?_⟩
        have hp1 : upd Hx p (.lst (fl (fun i => Df' t (i + 1) c) (j + 1))) p = some (.lst (fl (fun i => Df' t (i + 1) c) (j + 1))) := upd_same
        have b1p := sp _ _ b1
        generalize upd Hx p (.lst (fl (fun i => Df' t (i + 1) c) (j + 1))) = Hp1 at sp hp1 b1p hD
        refine lc_zipL (n := j + 1) (by rw [fl_len, fl_len]; omega) (fun i Hy => Hy D = some (.lst (fl (fun l => Df' (t + 1) l c) i)) ∧ Sm Hp1 Hy) ⟨upd_same, Sm.new hD⟩ (fun i Hy _ hP => ⟨SqL.of (hP.2 _ _ b1p), SqL.of (hP.2 _ _ hp1)⟩) (fun i x y T Hy hx hy hP hT => ?_) (fun Hy hP => ?_)
        · obtain ⟨g1, g2⟩ := hP
          have hi : i < j + 1 := by
            have := (List.getElem?_eq_some_iff.mp hy).1
            rw [fl_len] at this
            exact this
          obtain rfl : x = .int (Df' t i c) := Option.some.inj (hx.symm.trans (fl_at _ (by omega)))
          obtain rfl : y = .int (Df' t (i + 1) c) := Option.some.inj (hy.symm.trans (fl_at _ hi))
          refine ⟨T, _, rfl, SqT.of upd_same, rfl, _, _, rfl, _, _, rfl, rfl, rfl, .int (Df' t (i + 1) c), rfl, .int (Df' t i c), rfl, _, _, rfl, rfl, ?_⟩
          have g1' := Sm.new (o := .tup [.int (Df' t i c), .int (Df' t (i + 1) c)]) hT _ _ g1
          refine ⟨_, g1', by rw [fl_len]; exact small1000 (by omega), ?_, ?_⟩
          · rw [fl_succ]
            exact upd_same
          · intro b u e
            rw [upd_ne (ne_of_none e hD)]
            exact Sm.new hT _ _ (g2 b u e)
        · obtain ⟨g1, g2⟩ := hP
          exact ⟨_, rfl, g1, (sx.trans sp).trans g2⟩
      · have hg : ¬ _ := fun z => hg (decide_eq_true z)
        rw [fl_len] at hg
        obtain rfl : t = L := by omega
        rw [Nat.sub_self] at b1
        exact ⟨.ref nn, rfl, nn, _, 0, _, rfl, rfl, SqL.of b1, atI_nat (j := 0) rfl, q Hx sx⟩
end
section
variable {P : Program} {w : World} {K : PySem.W.Frag} {mg : Str → Option Value} {base : Heap}
/-! ### divisions, by the law -/
def rc (f : Nat → Nat → Int) (r n : Nat) : List (List Int) := (List.range r).map fun i => (List.range n).map (f i)
theorem rc_len (f : Nat → Nat → Int) (r n : Nat) : (rc f r n).length = r := by
  unfold rc
  rw [List.length_map, List.length_range]
theorem rc_row (f : Nat → Nat → Int) {r n i : Nat} (h : i < r) : (rc f r n).getD i [] = (List.range n).map (f i) := by
  unfold rc
  rw [List.getD_eq_getElem?_getD, List.getElem?_map, List.getElem?_range h]
  rfl
theorem rc_succ (f : Nat → Nat → Int) (r n : Nat) : rc f (r + 1) n = rc f r n ++ [(List.range n).map (f r)] := by
  unfold rc
  rw [List.range_succ, List.map_append]
  rfl
abbrev S0 (m p : Nat) : Int := (tb sTab m p : Int)
def sp_Ldivs (K : PySem.W.Frag) : Sp := fun vs H Q _ => ∃ (c : Nat), vs = [.int (c : Int)] ∧ 1 ≤ c ∧ c ≤ 12 ∧
  ∀ (H' : Hp) (o : Addr) (ps : List Addr), Sm H H' → H' o = some (.lst (ps.map V.ref)) → Rws H' ps (rc S0 (c + 1) (c + 1)) → Q (.ref o) H'
theorem first_row {c : Nat} (h12 : c ≤ 12) : [V.int 1] ++ List.replicate c (V.int 0) = fl (S0 0) (c + 1) := by
  match c, h12 with
  | 0, _ => rfl
  | 1, _ => rfl
  | 2, _ => rfl
  | 3, _ => rfl
  | 4, _ => rfl
  | 5, _ => rfl
  | 6, _ => rfl
  | 7, _ => rfl
  | 8, _ => rfl
  | 9, _ => rfl
  | 10, _ => rfl
  | 11, _ => rfl
  | 12, _ => rfl
theorem ok_Ldivs {f : Addr} {fd : FuncData} {k : Nat} (F : Fun K "_law_divisions" "_law_divisions" s_L_divisions f fd) (B : Bi mg) : FnOk P w K mg base CX0 (k + 1) f fd ["_law_most"] (sp_Ldivs K) := by
  refine F.ok sc_L_divisions (fun vs H Q E h => ?_) (fun cdv A outer s H vs Q E hr h => ?_)
  · obtain ⟨c, rfl, _⟩ := h
    rfl
  · obtain ⟨c, rfl, h1, h12, q⟩ := h
    have nd := sc_L_divisions.nd
    refine ⟨_, pss_cons (ps_set (i := 1) nd rfl (.inl rfl) (pe_lst (pa_cons (pe_op op_cat (pe_lst (pa_cons pe_int pa_nil)) (pe_op op_rep (pe_lst (pa_cons pe_int pa_nil)) (pv 0))) pa_nil)))
      (pss_cons (ps_for PassesOwn.never rfl (pi_range1 rfl B.range (pa_cons (pv 0) pa_nil)) (pg_name (i := 2) nd rfl (.inl rfl))
        (pss_cons (ps_set (i := 3) nd rfl (.inl rfl) (pe_lst (pa_cons pe_int pa_nil)))
        (pss_cons (ps_for PassesOwn.never rfl (pi_range2 rfl B.range (pa_cons pe_int (pa_cons (pe_op op_add (pv 0) pe_int) pa_nil))) (pg_name (i := 4) nd rfl (.inl rfl))
          (pss_one (ps_expr (pe_bm PySem.F.plainAttrs_list PySem.F.slot_list_append PySem.F.type_list_append mt_append (pv 3) (pa_cons
            (pe_op op_add (pe_ix ix_list (pe_ix ix_list (pv 1) (pv 2) (fun _ _ => rfl)) (pe_op op_sub (pv 4) pe_int) (fun _ _ => rfl)) (pe_op op_mul (pv 4) (pe_ix ix_list (pe_ix ix_list (pv 1) (pv 2) (fun _ _ => rfl)) (pv 4) (fun _ _ => rfl)))) pa_nil)))))
        (pss_one (ps_expr (pe_bm PySem.F.plainAttrs_list PySem.F.slot_list_append PySem.F.type_list_append mt_append (pv 1) (pa_cons (pv 3) pa_nil)))))))
      (pss_one (ps_ret (pv 1)))), ?_⟩
    refine ⟨(by show 1 ≤ sizeLine; decide), fun o1 ho1 => ⟨(by show 1 ≤ sizeLine; decide), fun o2 ho2 => ?_⟩⟩
    have s1 := Sm.new (o := .lst [.int 1]) ho1
    have s2 := s1.trans (Sm.new (o := .lst [.int 0]) ho2)
    refine ⟨.int (c : Int), rfl, o2, _, _, rfl, rfl, upd_same, by omega, by omega, ?_, fun o3 ho3 => ?_⟩
    · show 1 * (c : Int).toNat ≤ sizeLine
      exact Nat.le_of_lt (small1000 (by omega))
    rw [flat1, show (c : Int).toNat = c by omega]
    have s3 := s2.trans (Sm.new (o := .lst (List.replicate c (.int 0))) ho3)
    refine ⟨o1, o3, _, _, rfl, rfl, ((Sm.new (o := .lst [.int 0]) ho2).trans (Sm.new ho3)) _ _ upd_same, upd_same, ?_, fun o4 ho4 => ?_⟩
    · rw [List.length_replicate]
      exact Nat.le_of_lt (small1000 (show 1 + c ≤ 1000 by omega))
    rw [first_row h12]
    have s4 := s3.trans (Sm.new (o := .lst (fl (S0 0) (c + 1))) ho4)
    refine ⟨(by show 1 ≤ sizeLine; decide), fun o ho => ?_⟩
    have s5 := s4.trans (Sm.new (o := .lst [.ref o4]) ho)
    have no : H o = none := s4.free ho
    have a4 := Sm.new (o := .lst [.ref o4]) ho _ _ (upd_same (H := upd (upd (upd H o1 (.lst [.int 1])) o2 (.lst [.int 0])) o3 (.lst (List.replicate c (.int 0)))) (a := o4) (o := .lst (fl (S0 0) (c + 1))))
    refine ⟨.int (c : Int), rfl, _, rfl, by omega, by omega, for_range (n := (c : Int).toNat) (fun i σ Hx => ∃ x2 x3 x4 ps, σ = [some (.int (c : Int)), some (.ref o), x2, x3, x4] ∧ Hx o = some (.lst (ps.map V.ref)) ∧ Rws Hx ps (rc S0 (i + 1) (c + 1)) ∧ Sm H Hx)
      ⟨none, none, none, [o4], rfl, upd_same, Rws.snoc Rws.nil (by simp) a4, s5⟩ (fun i σ Hx hi hI => ?_) (fun σ Hx hI => ?_)⟩
    · obtain ⟨x2, x3, x4, ps, rfl, c1, c2, sx⟩ := hI
      rw [Int.zero_add]
      show _
      refine ⟨(by show 1 ≤ sizeLine; decide), fun r hr' => ?_⟩
      have sr := Sm.new (o := .lst [.int 0]) hr'
      have nro : o ≠ r := ne_of_none c1 hr'
      have hic : i < c := by omega
      have z0 : (0 : Int) = S0 (i + 1) 0 := by
        show (0 : Int) = ((tb sTab (i + 1) 0 : Nat) : Int)
        rw [(tab_S1 i (by omega)).1]
        rfl
      obtain ⟨rp, hrp, hrow⟩ := c2.get (i := i) (by rw [rc_len]; omega)
      rw [rc_row _ (by omega)] at hrow
      refine ⟨.int (c : Int), rfl, _, _, rfl, rfl, _, _, rfl, ⟨by decide, by decide, by omega, by omega⟩, ?_⟩
      rw [show ((c : Int) + 1 - 1).toNat = c by omega]
      refine for_range (n := c) (fun j σ Hy => ∃ x4, σ = [some (.int (c : Int)), some (.ref o), some (.int (i : Int)), some (.ref r), x4] ∧ Hy r = some (.lst (fl (S0 (i + 1)) (j + 1))) ∧ Sm Hx Hy) ⟨x4, rfl, by rw [fl_one, ← z0]; exact upd_same, sr⟩ (fun j σ Hy hj hI => ?_) (fun σ Hy hI => ?_)
      · obtain ⟨x4, rfl, d1, sy⟩ := hI
        rw [show (1 : Int) + (j : Int) = ((j + 1 : Nat) : Int) by omega]
        show _
        have lo : ∀ v, (ps.map V.ref)[i]? = some v → v = .ref rp := fun v hv => Option.some.inj (hv.symm.trans (refs_at hrp))
        refine ⟨.ref r, rfl, .inl ⟨rfl, _, SqL.of d1⟩, .ref o, rfl, .int (i : Int), rfl, o, _, _, _, rfl, rfl, SqL.of (sy _ _ c1), atI_nat (refs_at hrp), .int ((j + 1 : Nat) : Int), rfl, _, _, rfl, rfl, rp, _, _, _, rfl, rfl, SqL.of (sy _ _ hrow), at_of j (by omega) (fl_at (S0 i) (by omega)), ?_⟩
        refine ⟨.int ((j + 1 : Nat) : Int), rfl, .ref o, rfl, .int (i : Int), rfl, o, _, _, _, rfl, rfl, SqL.of (sy _ _ c1), atI_nat (refs_at hrp), .int ((j + 1 : Nat) : Int), rfl, rp, _, _, _, rfl, rfl, SqL.of (sy _ _ hrow), atI_nat (fl_at (S0 i) (by omega)), ?_⟩
        refine ⟨_, _, rfl, rfl, .inl ⟨by omega, by omega⟩, _, _, rfl, rfl, r, _, _, rfl, rfl, d1, by rw [fl_len]; exact small1000 (by omega), _, rfl, ?_, ?_⟩
        · rw [upd_same, fl_succ _ (j + 1)]
          have e : S0 i j + ((j + 1 : Nat) : Int) * S0 i (j + 1) = S0 (i + 1) (j + 1) := by
            show (tb sTab i j : Int) + ((j + 1 : Nat) : Int) * (tb sTab i (j + 1) : Int) = ((tb sTab (i + 1) (j + 1) : Nat) : Int)
            rw [(tab_S1 i (by omega)).2 j (by omega), ← Int.natCast_mul, ← Int.natCast_add]
          exact congrArg (fun z : Int => some (HO.lst (fl (S0 (i + 1)) (j + 1) ++ [V.int z]))) e
        · intro b u e
          rw [upd_ne (ne_of_none e hr')]
          exact sy b u e
      · obtain ⟨x4, rfl, d1, sy⟩ := hI
        have c1' := sy _ _ c1
        have hpl := c2.1
        rw [rc_len] at hpl
        refine ⟨.ref o, rfl, .inl ⟨rfl, _, SqL.of c1'⟩, .ref r, rfl, o, _, _, rfl, rfl, c1', by rw [List.length_map]; exact small1000 (by omega), _, _, _, ps ++ [r], rfl, ?_, ?_, ?_⟩
        · rw [upd_same, List.map_append]
          rfl
        · rw [rc_succ]
          have hn : r ∉ ps := c2.not_mem hr'
          refine ((c2.same sy).snoc hn d1).upd ?_
          intro hm
          rcases List.mem_append.mp hm with hm | hm
          · exact c2.outer c1 hm
          · exact nro (List.mem_singleton.mp hm)
        · intro b u e
          rw [upd_ne (ne_of_none e no)]
          exact sy _ _ (sx b u e)
    · obtain ⟨x2, x3, x4, ps, rfl, c1, c2, sx⟩ := hI
      rw [show (c : Int).toNat = c by omega] at c2
      exact ⟨_, rfl, q Hx o ps sx c1 c2⟩
/-! ### what is due -/
def sp_Ldue (K : PySem.W.Frag) : Sp := fun vs H Q _ => ∃ (c L b : Nat), vs = [.int (c : Int), .int (L : Int), .int (b : Int)] ∧ 1 ≤ c ∧ c ≤ 12 ∧ L ≤ 60 ∧ b ≤ 1 ∧
  ∀ (H' : Hp), Sm H H' → Q (.int (nw b (c + 1) c L 1)) H'
theorem nw_zero {b c : Nat} (h1 : 1 ≤ c) (h12 : c ≤ 12) : ∀ t, nw b (c + 1) c t 0 = 0
  | 0 => by
    show (if 0 = c then (1 : Int) else 0) = 0
    rw [if_neg (by omega)]
  | t + 1 => by
    show sumI (c + 1) (fun m => nw b (c + 1) c t m * (Sl b m 0 : Int)) = 0
    refine sumI_zero fun m hm => ?_
    by_cases h0 : m = 0
    · subst h0
      rw [nw_zero h1 h12 t, Int.zero_mul]
    · obtain ⟨j, rfl⟩ : ∃ j, m = j + 1 := ⟨m - 1, by omega⟩
      unfold Sl
      rw [(tab_S1 j (by omega)).1]
      split <;> exact Int.mul_zero _
theorem nw_sum {b c t p : Nat} (hp : p ≤ c) (hb : b ≤ 1) : sumI (c + 1 - (p + b)) (fun j => nw b (c + 1) c t (p + b + j) * S0 (p + b + j) p) = nw b (c + 1) c (t + 1) p := by
  show _ = sumI (c + 1) (fun m => nw b (c + 1) c t m * (Sl b m p : Int))
  rw [show c + 1 = (p + b) + (c + 1 - (p + b)) by omega, sumI_shift, ← show c + 1 = (p + b) + (c + 1 - (p + b)) by omega]
  rw [sumI_zero (n := p + b) fun m hm => by unfold Sl; rw [if_pos hm]; exact Int.mul_zero _, Int.zero_add]
  refine sumI_congr fun j _ => ?_
  unfold Sl
  rw [if_neg (by omega)]
theorem last_row {c : Nat} : List.replicate c (V.int 0) ++ [V.int 1] = fl (nw b (c + 1) c 0) (c + 1) := by
  rw [fl_succ]
  have e1 : nw b (c + 1) c 0 c = 1 := if_pos rfl
  rw [e1]
  congr 1
  have e2 : fl (nw b (c + 1) c 0) c = fl (fun _ => 0) c := fl_congr fun i hi => if_neg (by omega)
  rw [e2]
  show _ = ((List.range c).map (fun _ => (0 : Int))).map V.int
  rw [List.map_map]
  exact (List.eq_replicate_iff.mpr ⟨by simp, fun x hx => by
    obtain ⟨i, _, e⟩ := List.mem_map.mp hx
    exact e.symm⟩).symm
theorem ok_Ldue {f fD : Addr} {fd fdD : FuncData} {k : Nat} (F : Fun K "_law_due" "_law_due" s_L_due f fd) (DD : Df K mg "_law_divisions" s_L_divisions fD fdD ["_law_most"]) (B : Bi mg) : FnOk P w K mg base CX0 (k + 2) f fd ["_law_count", "_law_levels", "_law_least"] (sp_Ldue K) := by
  have GD : FnOk P w K mg base CX0 (k + 1) fD fdD ["_law_most"] (sp_Ldivs K) := ok_Ldivs DD.F B
  refine F.ok sc_L_due (fun vs H Q E h => ?_) (fun cdv A outer s H vs Q E hr h => ?_)
  · obtain ⟨c, L, b, rfl, _⟩ := h
    rfl
  · obtain ⟨c, L, b, rfl, h1, h12, hL, hb, q⟩ := h
    have nd := sc_L_due.nd
    refine ⟨_, pss_cons (ps_set (i := 3) nd rfl (.inr rfl) (pe_cl DD GD hr (pa_cons (pv 0) pa_nil)))
      (pss_cons (ps_set (i := 4) nd rfl (.inr rfl) (pe_op op_cat (pe_op op_rep (pe_lst (pa_cons pe_int pa_nil)) (pv 0)) (pe_lst (pa_cons pe_int pa_nil))))
      (pss_cons (ps_for PassesOwn.never rfl (pi_range1 rfl B.range (pa_cons (pv 1) pa_nil)) (pg_name (i := 5) nd rfl (.inl rfl))
        (pss_cons (ps_set (i := 6) nd rfl (.inl rfl) (pe_lst (pa_cons pe_int pa_nil)))
        (pss_cons (ps_for PassesOwn.never rfl (pi_range2 rfl B.range (pa_cons pe_int (pa_cons (pe_op op_add (pv 0) pe_int) pa_nil))) (pg_name (i := 7) nd rfl (.inr rfl))
          (pss_cons (ps_setLc (i := 8) (own := [("_law_many", 9)]) (g := gName 9) (tt := tYes) rfl nd rfl rfl (sw_true rfl rfl rfl (by decide +kernel)) (pi_range2 rfl B.range (pa_cons (pe_op op_add (pv 7) (pv 2)) (pa_cons (pe_op op_add (pv 0) pe_int) pa_nil))) (blkOk_by (N := N_L_due) (sc := defScope s_L_due) (by decide +kernel))
            (fun _ _ _ _ _ => pg_name (i := 9) nd rfl (.inl rfl)) (fun _ _ _ _ _ => pts_nil)
            (fun _ _ _ _ _ => pe_op op_mul (pe_ix (ixK K rfl) (pv 4) (pv 9) (fun _ _ => rfl)) (pe_ix (ixK K rfl) (pe_ix (ixK K rfl) (pv 3) (pv 9) (fun _ _ => rfl)) (pv 7) (fun _ _ => rfl))))
          (pss_one (ps_expr (pe_bm PySem.F.plainAttrs_list PySem.F.slot_list_append PySem.F.type_list_append mt_append (pv 6) (pa_cons (pe_callB (cr_sum rfl) (by rfl) B.sum (by decide +kernel) (pa_cons (pv 8) pa_nil)) pa_nil))))))
        (pss_one (ps_set (i := 4) nd rfl (.inr rfl) (pv 6))))))
      (pss_one (ps_ret (pe_ix ix_list (pv 4) pe_int (fun _ _ => rfl)))))), ?_⟩
    refine ⟨.int (c : Int), rfl, c, rfl, h1, h12, fun H1 wo ps s1 hwo hR => ?_⟩
    have hpl := hR.1
    rw [rc_len] at hpl
    refine ⟨(by show 1 ≤ sizeLine; decide), fun o2 ho2 => ?_⟩
    have s2 := Sm.new (o := .lst [.int 0]) ho2
    refine ⟨.int (c : Int), rfl, o2, _, _, rfl, rfl, upd_same, by omega, by omega, ?_, fun o3 ho3 => ?_⟩
    · show 1 * (c : Int).toNat ≤ sizeLine
      exact Nat.le_of_lt (small1000 (by omega))
    rw [flat1, show (c : Int).toNat = c by omega]
    have s3 := s2.trans (Sm.new (o := .lst (List.replicate c (.int 0))) ho3)
    refine ⟨(by show 1 ≤ sizeLine; decide), fun o5 ho5 => ?_⟩
    have s5 := s3.trans (Sm.new (o := .lst [.int 1]) ho5)
    refine ⟨o3, o5, _, _, rfl, rfl, Sm.new ho5 _ _ upd_same, upd_same, ?_, fun o4 ho4 => ?_⟩
    · rw [List.length_replicate]
      exact Nat.le_of_lt (small1000 (show c + 1 ≤ 1000 by omega))
    rw [last_row (b := b)]
    have s4 := s5.trans (Sm.new (o := .lst (fl (nw b (c + 1) c 0) (c + 1))) ho4)
    refine ⟨.int (L : Int), rfl, _, rfl, by omega, by omega, for_range (n := (L : Int).toNat) (fun i σ Hx => ∃ x5 x6 x7 x8 no, σ = [some (.int (c : Int)), some (.int (L : Int)), some (.int (b : Int)), some (.ref wo), some (.ref no), x5, x6, x7, x8, none] ∧ Hx no = some (.lst (fl (nw b (c + 1) c i) (c + 1))) ∧ Sm H1 Hx)
      ⟨none, none, none, none, o4, rfl, upd_same, s4⟩ (fun i σ Hx hi hI => ?_) (fun σ Hx hI => ?_)⟩
    · obtain ⟨x5, x6, x7, x8, no, rfl, c1, sx⟩ := hI
      rw [Int.zero_add]
      show _
      refine ⟨(by show 1 ≤ sizeLine; decide), fun r hr' => ?_⟩
      have sr := Sm.new (o := .lst [.int 0]) hr'
      have z0 : (0 : Int) = nw b (c + 1) c (i + 1) 0 := (nw_zero h1 h12 (i + 1)).symm
      refine ⟨.int (c : Int), rfl, _, _, rfl, rfl, _, _, rfl, ⟨by decide, by decide, by omega, by omega⟩, ?_⟩
      rw [show ((c : Int) + 1 - 1).toNat = c by omega]
      refine for_range (n := c) (fun j σ Hy => ∃ x7 x8, σ = [some (.int (c : Int)), some (.int (L : Int)), some (.int (b : Int)), some (.ref wo), some (.ref no), some (.int (i : Int)), some (.ref r), x7, x8, none] ∧ Hy r = some (.lst (fl (nw b (c + 1) c (i + 1)) (j + 1))) ∧ Sm Hx Hy) ⟨x7, x8, rfl, by rw [fl_one, ← z0]; exact upd_same, sr⟩ (fun j σ Hy hj hI => ?_) (fun σ Hy hI => ?_)
      · obtain ⟨x7, x8, rfl, d1, sy⟩ := hI
        rw [show (1 : Int) + (j : Int) = ((j + 1 : Nat) : Int) by omega]
        show _
        refine ⟨.int ((j + 1 : Nat) : Int), rfl, .int (b : Int), rfl, _, _, rfl, rfl, .int (c : Int), rfl, _, _, rfl, rfl, _, _, rfl, ⟨by omega, by omega, by omega, by omega⟩, fun D hD => ?_⟩
        rw [show ((c : Int) + 1 - (((j + 1 : Nat) : Int) + (b : Int))).toNat = c + 1 - (j + 1 + b) by omega]
        refine lc_range (n := c + 1 - (j + 1 + b)) (lo := ((j + 1 : Nat) : Int) + (b : Int)) (fun i2 Hz => Hz D = some (.lst (fl (fun m => nw b (c + 1) c i (j + 1 + b + m) * S0 (j + 1 + b + m) (j + 1)) i2)) ∧ Sm Hy Hz) ⟨upd_same, Sm.new hD⟩ (fun i2 Hz hi2 hP => ?_) (fun Hz hP => ?_)
        · obtain ⟨g1, g2⟩ := hP
          rw [show ((j + 1 : Nat) : Int) + (b : Int) + (i2 : Int) = ((j + 1 + b + i2 : Nat) : Int) by omega]
          have hm : j + 1 + b + i2 < c + 1 := by omega
          obtain ⟨rp, hrp, hrow⟩ := hR.get (i := j + 1 + b + i2) (by rw [rc_len]; exact hm)
          rw [rc_row _ hm] at hrow
          have n3 := tab_Sle (j + 1 + b + i2) (by omega) (j + 1) (by omega)
          have n4 : S0 (j + 1 + b + i2) (j + 1) = (tb sTab (j + 1 + b + i2) (j + 1) : Int) := rfl
          have sxz := sx.trans (sy.trans g2)
          refine ⟨rfl, .ref no, rfl, .int ((j + 1 + b + i2 : Nat) : Int), rfl, no, _, _, _, rfl, rfl, SqL.of ((sy.trans g2) _ _ c1), atI_nat (fl_at _ hm), .ref wo, rfl, .int ((j + 1 + b + i2 : Nat) : Int), rfl, wo, _, _, _, rfl, rfl, SqL.of (sxz _ _ hwo), atI_nat (refs_at hrp), .int ((j + 1 : Nat) : Int), rfl, rp, _, _, _, rfl, rfl, SqL.of (sxz _ _ hrow), atI_nat (fl_at _ (by omega)), _, _, rfl, rfl, .inr ⟨by omega, by omega⟩, ?_⟩
          refine ⟨_, g1, by rw [fl_len]; exact small1000 (by omega), ?_, ?_⟩
          · rw [fl_succ]
            exact upd_same
          · intro b u e
            rw [upd_ne (ne_of_none e hD)]
            exact g2 b u e
        · obtain ⟨g1, g2⟩ := hP
          have d1' := g2 _ _ d1
          refine ⟨.ref r, rfl, .inl ⟨rfl, _, SqL.of d1'⟩, .ref D, rfl, D, _, rfl, SqL.of g1, r, _, _, rfl, rfl, d1', by rw [fl_len]; exact small1000 (by omega), _, _, rfl, ?_, ?_⟩
          · rw [upd_same, fl_succ _ (j + 1), sumI_range, nw_sum (by omega) hb]
          · intro b u e
            rw [upd_ne (ne_of_none e hr')]
            exact g2 _ _ (sy b u e)
      · obtain ⟨x7, x8, rfl, d1, sy⟩ := hI
        exact ⟨_, rfl, _, _, _, _, r, rfl, d1, sx.trans sy⟩
    · obtain ⟨x5, x6, x7, x8, no, rfl, c1, sx⟩ := hI
      rw [show (L : Int).toNat = L by omega] at c1
      exact ⟨.ref no, rfl, no, _, 1, _, rfl, rfl, SqL.of c1, atI_nat (j := 1) (fl_at _ (by omega)), q Hx (s1.trans sx)⟩
end
section
variable {P : Program} {w : World} {K : PySem.W.Frag} {mg : Str → Option Value} {base : Heap}
/-! ### two equal values are equal -/
def sp_equal (K : PySem.W.Frag) : Nat → Sp
  | 0 => fun _ _ _ _ => False
  | n + 1 => fun vs H Q _ => ∃ (x y : V) (d : PyData), vs = [x, y] ∧ Dp K H x d ∧ Dp K H y d ∧ okD n d ∧ ∀ H', Sm H H' → Q (.bl true) H'
theorem isi_no {a b : String} {r : Bool} (h : kitB a b = some r) : PySem.W.kitOne K (.type a) (.type b) = some r := kit_ty h
theorem ok_equal {f : Addr} {fd : FuncData} (D : Df K mg "_law_equal" s_L_equal f fd ["_law_one_here", "_law_other"]) (B : Bi mg) : ∀ n, FnOk P w K mg base CX0 (n + 1) f fd ["_law_one_here", "_law_other"] (sp_equal K n)
  | 0 => ⟨fun _ _ _ _ h => h.elim, fun _ _ _ _ _ _ _ _ _ _ _ _ _ h => h.elim⟩
  | n + 1 => by
    have G := ok_equal D B n
    refine D.F.ok sc_L_equal (fun vs H Q E h => ?_) (fun cdv A outer s H vs Q E hr h => ?_)
    · obtain ⟨x, y, d, rfl, _⟩ := h
      rfl
    · obtain ⟨x, y, d, rfl, hx, hy, ok, q⟩ := h
      have nd := sc_L_equal.nd
      refine ⟨_, pss_cons (ps_if (PW.pt (pw_and (pt_val (pe_callB call_isi (by rfl) B.isinstance (by decide +kernel) (pa_cons (pv 0) (pa_cons (pe_bltn (by rfl) B.tuple (by decide +kernel) (v := .ty "tuple") rfl) pa_nil))))
            (pw_and1 (pt_val (pe_callB call_isi (by rfl) B.isinstance (by decide +kernel) (pa_cons (pv 1) (pa_cons (pe_bltn (by rfl) B.tuple (by decide +kernel) (v := .ty "tuple") rfl) pa_nil)))))))
          (pss_one (ps_ret (pe_and (pe_cmpR op_eq (pe_len B (pv 0)) (pe_len B (pv 1)) (nomark _)) (pe_one (pe_callB (cr_all rfl) (by rfl) B.all (by decide +kernel) (pa_cons
            (pe_lc (own := [("_law_a", 2), ("_law_b", 3)]) (g := gTup K 2 (gCons (gName 2) (gCons (gName 3) gNil))) (tt := tYes) rfl nd (RZ.pi_zipA (by rfl) B.zip (pa_cons (pv 0) (pa_cons (pv 1) pa_nil))) (blkOk_by (N := N_L_equal) (sc := defScope s_L_equal) (by decide +kernel))
              (fun _ _ _ _ _ => pg_tup rfl (pgs_cons (pg_name (i := 2) nd rfl (.inl rfl)) (pgs_cons (pg_name (i := 3) nd rfl (.inl rfl)) pgs_nil))) (fun _ _ _ _ _ => pts_nil)
              (fun _ _ _ _ _ => pe_cl D G hr (pa_cons (pv 2) (pa_cons (pv 3) pa_nil)))) pa_nil)))))) pss_nil)
        (pss_cons (ps_if (PW.pt (pw_or (pt_val (pe_callB call_isi (by rfl) B.isinstance (by decide +kernel) (pa_cons (pv 0) (pa_cons (pe_bltn (by rfl) B.bool (by decide +kernel) (v := .ty "bool") rfl) pa_nil))))
            (pw_or1 (pt_val (pe_callB call_isi (by rfl) B.isinstance (by decide +kernel) (pa_cons (pv 1) (pa_cons (pe_bltn (by rfl) B.bool (by decide +kernel) (v := .ty "bool") rfl) pa_nil)))))))
          (pss_one (ps_ret (pe_and (pe_callB call_isi (by rfl) B.isinstance (by decide +kernel) (pa_cons (pv 0) (pa_cons (pe_bltn (by rfl) B.bool (by decide +kernel) (v := .ty "bool") rfl) pa_nil)))
            (pe_and (pe_callB call_isi (by rfl) B.isinstance (by decide +kernel) (pa_cons (pv 1) (pa_cons (pe_bltn (by rfl) B.bool (by decide +kernel) (v := .ty "bool") rfl) pa_nil))) (pe_one (pe_cmpR op_eq (pv 0) (pv 1) (nomark _))))))) pss_nil)
        (pss_cons (ps_if (pt_cmpR op_ne (pe_callB call_isi (by rfl) B.isinstance (by decide +kernel) (pa_cons (pv 0) (pa_cons (pe_bltn (by rfl) B.tuple (by decide +kernel) (v := .ty "tuple") rfl) pa_nil))) (pe_callB call_isi (by rfl) B.isinstance (by decide +kernel) (pa_cons (pv 1) (pa_cons (pe_bltn (by rfl) B.tuple (by decide +kernel) (v := .ty "tuple") rfl) pa_nil))) (nomark _))
          (pss_one (ps_ret pe_bl)) pss_nil)
        (pss_cons (ps_if (pt_cmpR op_ne (pe_callB call_isi (by rfl) B.isinstance (by decide +kernel) (pa_cons (pv 0) (pa_cons (pe_bltn (by rfl) B.int (by decide +kernel) (v := .ty "int") rfl) pa_nil))) (pe_callB call_isi (by rfl) B.isinstance (by decide +kernel) (pa_cons (pv 1) (pa_cons (pe_bltn (by rfl) B.int (by decide +kernel) (v := .ty "int") rfl) pa_nil))) (nomark _))
          (pss_one (ps_ret pe_bl)) pss_nil)
        (pss_one (ps_ret (pe_and (pe_cmpR op_eq (pe_callB call_isi (by rfl) B.isinstance (by decide +kernel) (pa_cons (pv 0) (pa_cons (pe_bltn (by rfl) B.str (by decide +kernel) (v := .ty "str") rfl) pa_nil))) (pe_callB call_isi (by rfl) B.isinstance (by decide +kernel) (pa_cons (pv 1) (pa_cons (pe_bltn (by rfl) B.str (by decide +kernel) (v := .ty "str") rfl) pa_nil))) (nomark _))
          (pe_one (pe_cmpR op_eq (pv 0) (pv 1) (nomark _))))))))), ?_⟩
      have tx := dp_ty hx ok
      have ty := dp_ty hy ok
      have key : (∃ bi bs : Bool, kitB (tyN d) "tuple" = some false ∧ kitB (tyN d) "bool" = some false ∧ kitB (tyN d) "int" = some bi ∧ kitB (tyN d) "str" = some bs ∧ scal x y = true ∧ x = y) ∨ (∃ b, d = .bool b) ∨ ∃ ds, d = .tuple ds := by
        cases hx with
        | non =>
          cases hy
          exact .inl ⟨false, false, by decide +kernel, by decide +kernel, by decide +kernel, by decide +kernel, rfl, rfl⟩
        | int i =>
          cases hy
          exact .inl ⟨true, false, (by show kitB "int" "tuple" = some false; decide +kernel), (by show kitB "int" "bool" = some false; decide +kernel), (by show kitB "int" "int" = some true; decide +kernel), (by show kitB "int" "str" = some false; decide +kernel), rfl, rfl⟩
        | str z =>
          cases hy
          exact .inl ⟨false, true, (by show kitB "str" "tuple" = some false; decide +kernel), (by show kitB "str" "bool" = some false; decide +kernel), (by show kitB "str" "int" = some false; decide +kernel), (by show kitB "str" "str" = some true; decide +kernel), rfl, rfl⟩
        | bl b => exact .inr (.inl ⟨b, rfl⟩)
        | lst hs ha => cases n <;> exact ok.elim
        | tup hs ha => exact .inr (.inr ⟨_, rfl⟩)
      rcases key with ⟨bi, bs, k1, k2, k3, k4, sc, e⟩ | ⟨b, rfl⟩ | ⟨ds, rfl⟩
      · refine ⟨x, rfl, x, .ty "tuple", _, _, false, rfl, .ty _, tx, isi_no k1, false, rfl, ?_⟩
        refine ⟨x, rfl, x, .ty "bool", _, _, false, rfl, .ty _, tx, isi_no k2, false, rfl, ⟨y, rfl, y, .ty "bool", _, _, false, rfl, .ty _, ty, isi_no k2, false, rfl, ?_⟩⟩
        refine ⟨x, rfl, x, .ty "tuple", _, _, false, rfl, .ty _, tx, isi_no k1, y, rfl, y, .ty "tuple", _, _, false, rfl, .ty _, ty, isi_no k1, rfl, _, rfl, ?_⟩
        refine ⟨x, rfl, x, .ty "int", _, _, bi, rfl, .ty _, tx, isi_no k3, y, rfl, y, .ty "int", _, _, bi, rfl, .ty _, ty, isi_no k3, rfl, _, rfl, iteNS rfl ?_⟩
        refine ⟨x, rfl, x, .ty "str", _, _, bs, rfl, .ty _, tx, isi_no k4, y, rfl, y, .ty "str", _, _, bs, rfl, .ty _, ty, isi_no k4, rfl, true, by rw [decide_eq_true rfl], ?_⟩
        exact ⟨x, rfl, y, rfl, sc, by rw [decide_eq_true e]; exact q _ (Sm.refl _)⟩
      · cases hx
        cases hy
        refine ⟨_, rfl, .bl b, .ty "tuple", _, _, false, rfl, .ty _, tx, isi_no (show kitB "bool" "tuple" = some false by decide +kernel), false, rfl, ⟨_, rfl, .bl b, .ty "bool", _, _, true, rfl, .ty _, tx, isi_no (show kitB "bool" "bool" = some true by decide +kernel), true, rfl, ?_⟩⟩
        exact ⟨_, rfl, .bl b, .ty "bool", _, _, true, rfl, .ty _, tx, isi_no (show kitB "bool" "bool" = some true by decide +kernel), true, rfl, ⟨_, rfl, .bl b, .ty "bool", _, _, true, rfl, .ty _, ty, isi_no (show kitB "bool" "bool" = some true by decide +kernel), true, rfl, ⟨_, rfl, _, rfl, rfl, by rw [decide_eq_true rfl]; exact q _ (Sm.refl _)⟩⟩⟩
      · cases hx with
        | @tup ax xs _ hs ha =>
         cases hy with
         | @tup ay ys _ hs2 ha2 =>
          cases n with
          | zero => exact ok.elim
          | succ n =>
            obtain ⟨okl, okd⟩ := ok
            have lx := dp_len ha
            have ly := dp_len ha2
            refine ⟨_, rfl, .ref ax, .ty "tuple", _, _, true, rfl, .ty _, tx, isi_no (show kitB "tuple" "tuple" = some true by decide +kernel), true, rfl, ⟨_, rfl, .ref ay, .ty "tuple", _, _, true, rfl, .ty _, ty, isi_no (show kitB "tuple" "tuple" = some true by decide +kernel), true, rfl, ?_⟩⟩
            refine ⟨_, rfl, ax, xs, rfl, .inr hs, _, rfl, ay, ys, rfl, .inr hs2, rfl, true, by rw [decide_eq_true (by rw [lx, ly])], ?_⟩
            refine ⟨_, rfl, _, rfl, ax, ay, xs, ys, rfl, .inr ⟨hs, hs2, fun R hR => ?_⟩⟩
            refine ⟨fun i m Hx => m = xs.length - i ∧ i ≤ xs.length ∧ ∃ bs : List Bool, Hx R = some (.lst (bs.map V.bl)) ∧ bs.length = i ∧ bs.all id = true ∧ Sm H Hx, ⟨xs.length, by omega, by omega, [], upd_same, rfl, rfl, Sm.new hR⟩, ?_⟩
            rintro i m Hx ⟨rfl, hi, bs, h1, h2, h3, h4⟩
            by_cases hlt : i < xs.length
            · have hly : i < ys.length := by omega
              refine .inr ⟨⟨xs, ys, _, _, h4.sqT hs, h4.sqT hs2, List.getElem?_eq_getElem hlt, List.getElem?_eq_getElem hly⟩, fun Hy => ∃ bs : List Bool, Hy R = some (.lst (bs.map V.bl)) ∧ bs.length = i + 1 ∧ bs.all id = true ∧ Sm H Hy, fun Hy hy => ⟨xs.length - (i + 1), by omega, rfl, by omega, hy⟩, fun v Hy hy => ?_⟩
              obtain ⟨T, x1, y1, rfl, hT, rfl, f1, f2⟩ := hy
              have g1 := f1 xs (h4.sqT hs)
              have g2 := f2 ys (h4.sqT hs2)
              obtain ⟨dx, e1, px⟩ := dp_at ha g1
              obtain ⟨dy, e2, py⟩ := dp_at ha2 g2
              obtain rfl : dx = dy := Option.some.inj (e1.symm.trans e2)
              have sT : Sm Hx (upd Hx T (.tup [x1, y1])) := Sm.new hT
              have s5 := h4.trans sT
              refine ⟨T, _, rfl, SqT.of upd_same, rfl, _, _, rfl, _, _, rfl, rfl, rfl, ?_⟩
              refine ⟨x1, rfl, y1, rfl, x1, y1, dx, rfl, Dp.same s5 _ _ px, Dp.same s5 _ _ py, okd _ (List.mem_of_getElem? e1), fun H6 s6 => ?_⟩
              have h6 := s6 _ _ (sT _ _ h1)
              refine ⟨_, h6, by rw [List.length_map]; exact small1000 (by omega), bs ++ [true], by rw [upd_same, List.map_append]; rfl, by rw [List.length_append, h2]; rfl, by rw [List.all_append, h3]; rfl, ?_⟩
              intro b o e
              rw [upd_ne (ne_of_none e hR)]
              exact s6 _ _ (s5 b o e)
            · refine .inl ⟨⟨xs, ys, h4.sqT hs, h4.sqT hs2, .inl (by omega)⟩, R, bs, rfl, SqL.of h1, ?_⟩
              rw [h3]
              exact q _ h4
end
section
variable {P : Program} {w : World} {K : PySem.W.Frag} {mg : Str → Option Value} {base : Heap}
/-! ### the beginning of a drawing -/
def sp_draws (K : PySem.W.Frag) : Sp := fun vs H Q _ => ∃ (a : Addr) (ns : List Int), vs = [.ref a] ∧ SqL K H a (ns.map V.int) ∧ ns.length ≤ 63 ∧ ∀ (H' : Hp) (d c r : Addr), Sm H H' → Dr H' d c r 0 → H d = none → H c = none → H r = none → Q (.ref d) H'
theorem ok_draws {f : Addr} {fd : FuncData} {k : Nat} (F : Fun K "_law_draws" "_law_draws" s_L_draws f fd) (B : Bi mg) : FnOk P w K mg base CX0 (k + 1) f fd ["_law_script"] (sp_draws K) := by
  refine F.ok sc_L_draws (fun vs H Q E h => ?_) (fun cdv A outer s H vs Q E hr h => ?_)
  · obtain ⟨a, ns, rfl, _⟩ := h
    rfl
  · obtain ⟨a, ns, rfl, hS, h63, q⟩ := h
    have nd := sc_L_draws.nd
    refine ⟨_, pss_cons (ps_set (i := 1) nd rfl (.inl rfl) (pe_op op_cat (pe_callTy call_list_of (by rfl) B.list (by decide +kernel) (pa_cons (pe_slice sl_list (pv 0) po_none (po_some pe_int)) pa_nil))
        (pe_op op_rep (pe_lst (pa_cons pe_int pa_nil)) (pe_callTy call_int1 (by rfl) B.int (by decide +kernel) (pa_cons (pe_cmpR op_eq (pe_len B (pv 0)) pe_int (nomark _)) pa_nil)))))
      (pss_one (ps_ret (pe_lst (pa_cons (pv 1) (pa_cons pe_int (pa_cons
        (pe_lc (own := [("_law_cell", 2)]) (g := gName 2) (tt := tYes) rfl nd (pi_list (pv 1)) (blkOk_by (N := N_L_draws) (sc := defScope s_L_draws) (by decide +kernel))
          (fun _ _ _ _ _ => pg_name (i := 2) nd rfl (.inl rfl)) (fun _ _ _ _ _ => pts_nil)
          (fun _ _ _ _ _ => pe_op op_mul (pv 2) (pe_callTy call_int1 (by rfl) B.int (by decide +kernel) (pa_cons (pe_cmpR op_ge (pv 2) (pe_op op_pow pe_int pe_int) (nomark _)) pa_nil)))) pa_nil)))))), ?_⟩
    refine ⟨.ref a, rfl, 63, rfl, a, _, rfl, hS, fun p1 hp1 => ?_⟩
    have e63 : cutV (ns.map V.int) none (some 63) = ns.map V.int := by
      rw [show (63 : Int) = ((63 : Nat) : Int) from rfl, cut_to]
      exact List.take_of_length_le (by rw [List.length_map]; exact h63)
    rw [e63]
    have s1 : Sm H (upd H p1 (.lst (ns.map V.int))) := Sm.new hp1
    refine ⟨p1, _, rfl, .inl (SqL.of upd_same), fun p2 hp2 => ?_⟩
    have s2 := s1.trans (Sm.new (o := .lst (ns.map V.int)) hp2)
    refine ⟨(by show 1 ≤ sizeLine; decide), fun p3 hp3 => ?_⟩
    have s3 := s2.trans (Sm.new (o := .lst [.int 0]) hp3)
    refine ⟨.ref a, rfl, a, _, rfl, .inl (s3.sqL hS), rfl, .inr ⟨_, rfl, ?_⟩⟩
    obtain ⟨kk, ek, ekk⟩ : ∃ kk : Nat, (if decide (V.int (((ns.map V.int).length : Nat) : Int) = V.int 0) = true then (1 : Int) else 0) = (kk : Int) ∧ (kk = if ns.length = 0 then 1 else 0) := by
      by_cases z : ns.length = 0
      · exact ⟨1, by rw [List.length_map, z]; rfl, by rw [if_pos z]⟩
      · refine ⟨0, ?_, by rw [if_neg z]⟩
        rw [List.length_map, decide_eq_false (fun e => z (by have := V.int.inj e; omega))]
        rfl
    rw [ek]
    have kk1 : kk ≤ 1 := by rw [ekk]; split <;> omega
    refine ⟨p3, _, _, rfl, rfl, upd_same, by omega, by omega, ?_, fun p4 hp4 => ?_⟩
    · show 1 * ((kk : Int).toNat) ≤ sizeLine
      exact Nat.le_of_lt (small1000 (by omega))
    obtain ⟨zs, ez, lz⟩ : ∃ zs : List Int, (List.replicate (kk : Int).toNat [V.int 0]).flatten = zs.map V.int ∧ zs.length = kk := by
      match kk, kk1 with
      | 0, _ => exact ⟨[], rfl, rfl⟩
      | 1, _ => exact ⟨[0], rfl, rfl⟩
    rw [ez]
    have s4 := s3.trans (Sm.new (o := .lst (zs.map V.int)) hp4)
    have h24 : (upd (upd (upd (upd H p1 (.lst (ns.map V.int))) p2 (.lst (ns.map V.int))) p3 (.lst [.int 0])) p4 (.lst (zs.map V.int))) p2 = some (.lst (ns.map V.int)) :=
      Sm.new hp4 _ _ (Sm.new hp3 _ _ upd_same)
    refine ⟨p2, p4, _, _, rfl, rfl, h24, upd_same, ?_, fun c hc => ?_⟩
    · rw [List.length_map, List.length_map]
      exact Nat.le_of_lt (small1000 (by omega))
    rw [← List.map_append]
    obtain ⟨cells, hcells⟩ : ∃ cells, cells = ns ++ zs := ⟨_, rfl⟩
    rw [← hcells]
    have lc : 0 < cells.length ∧ cells.length ≤ 64 := by
      rw [hcells, List.length_append, lz, ekk]
      split <;> omega
    have cH : H c = none := s4.free hc
    have s5 := s4.trans (Sm.new (o := .lst (cells.map V.int)) hc)
    have c5 : (upd (upd (upd (upd (upd H p1 (.lst (ns.map V.int))) p2 (.lst (ns.map V.int))) p3 (.lst [.int 0])) p4 (.lst (zs.map V.int))) c (.lst (cells.map V.int))) c = some (.lst (cells.map V.int)) := upd_same
    generalize upd (upd (upd (upd (upd H p1 (.lst (ns.map V.int))) p2 (.lst (ns.map V.int))) p3 (.lst [.int 0])) p4 (.lst (zs.map V.int))) c (.lst (cells.map V.int)) = H5 at s5 c5
    -- the three
    refine ⟨.ref c, rfl, .ref c, rfl, c, rfl, ⟨_, SqL.of c5⟩, fun r hr0 => lc_list (xs := cells.map V.int) (fun i Hx => ∃ rs : List Int, Hx r = some (.lst (rs.map V.int)) ∧ rs.length = i ∧ (∀ x ∈ rs, 0 ≤ x) ∧ Sm H5 Hx) ⟨[], upd_same, rfl, fun x hx => by simp at hx, Sm.new hr0⟩ (fun i Hx hi hP => ?_) (fun i v Hx hv hP => ?_) (fun Hx hP => ?_)⟩
    · obtain ⟨_, _, _, _, h4⟩ := hP
      exact SqL.of (h4 _ _ c5)
    · obtain ⟨rs, h1, h2, h3, h4⟩ := hP
      have hi : i < cells.length := by
        have := (List.getElem?_eq_some_iff.mp hv).1
        rwa [List.length_map] at this
      obtain ⟨x, rfl⟩ : ∃ x : Int, v = .int x := by
        rw [List.getElem?_map, List.getElem?_eq_getElem hi] at hv
        exact ⟨_, (Option.some.inj hv).symm⟩
      refine ⟨rfl, .int x, rfl, .int x, rfl, _, _, rfl, rfl, ⟨by decide, by decide, by decide⟩, _, _, rfl, rfl, .inr ⟨_, rfl, ?_⟩⟩
      obtain ⟨b, hb, hb2⟩ : ∃ b : Int, (if decide ((10 : Int) ^ (18 : Int).toNat ≤ x) = true then (1 : Int) else 0) = b ∧ ((b = 1 ∧ (10 : Int) ^ (18 : Int).toNat ≤ x) ∨ b = 0) := by
        by_cases z : (10 : Int) ^ (18 : Int).toNat ≤ x
        · exact ⟨1, by rw [decide_eq_true z]; rfl, .inl ⟨rfl, z⟩⟩
        · exact ⟨0, by rw [decide_eq_false z]; rfl, .inr rfl⟩
      rw [hb]
      refine ⟨_, _, rfl, rfl, .inr ⟨?_, ?_⟩, _, h1, by rw [List.length_map]; exact small1000 (by omega), rs ++ [x * b], ?_, by rw [List.length_append, h2]; rfl, ?_, ?_⟩
      · rcases hb2 with ⟨z, _⟩ | z <;> rw [z] <;> decide
      · rcases hb2 with ⟨z, _⟩ | z <;> rw [z] <;> decide
      · rw [upd_same, List.map_append]; rfl
      · intro y hy
        rcases List.mem_append.mp hy with hy | hy
        · exact h3 y hy
        · rw [List.mem_singleton.mp hy]
          rcases hb2 with ⟨z, zx⟩ | z
          · rw [z, Int.mul_one]
            exact Int.le_trans (by decide) zx
          · rw [z, Int.mul_zero]
            exact Int.le_refl 0
      · intro e o he
        rw [upd_ne (ne_of_none he hr0)]
        exact h4 e o he
    · obtain ⟨rs, h1, h2, h3, h4⟩ := hP
      rw [List.length_map] at h2
      refine ⟨(by show 3 ≤ sizeLine; decide), fun d hd0 => ?_⟩
      have c6 := h4 _ _ c5
      have s6 := s5.trans h4
      refine q _ d c r (s6.trans (Sm.new hd0)) ⟨⟨cells, rs, 0, upd_same, Sm.new hd0 _ _ c6, Sm.new hd0 _ _ h1, h2.symm, lc.1, lc.2, Nat.le_refl _, h3⟩, (ne_of_none c6 hd0).symm, (ne_of_none h1 hd0).symm, ne_of_none c5 hr0⟩ (s6.free hd0) cH (s5.free hr0)
end
theorem kb_cn {K : PySem.W.Frag} {mg : Str → Option Value} {f : Addr} {fd : FuncData} {kws : List (Str × V)} (D : KoDf K mg "count_nested" s_count_nested f fd kws) : KBinds K fd ["count", "levels", "every"] ["every"] kg3 kg3 := by
  obtain ⟨oc, od, dV, kV, doc, pm, an, cdv, ct, osl, rfl, lk, hcd, hD, hK⟩ := D.F.ex
  refine ⟨fun s us ws X hl => ?_, kg3_rel⟩
  rcases hD with ⟨_, rfl⟩ | ⟨e, _⟩
  · match us, ws, hl with
    | [a, b], [c], _ => exact .of_eq rfl
    | [], _, h => exact absurd h (by simp [kg3])
    | [_], _, h => exact absurd h (by simp [kg3])
    | [_, _], [], h => exact absurd h (by simp [kg3])
    | [_, _], _ :: _ :: _, h => exact absurd h (by simp [kg3])
    | _ :: _ :: _ :: _, _, h => exact absurd h (by simp [kg3])
  · exact absurd rfl e
theorem db_cn {K : PySem.W.Frag} {mg : Str → Option Value} {f : Addr} {fd : FuncData} (D : KoDf K mg "count_nested" s_count_nested f fd [("every", .bl false)]) : ∃ ds, Vals [V.bl false] ds ∧ Binds K fd ["count", "levels", "every"] ds :=
  D.F.binds0 2 (by simp) rfl fun Da doc pm an cdv ct us ks h1 h2 => by
    match us, ks, h1, h2 with
    | [a, b], [c], _, _ => exact ⟨_, _, _, _, _, _, rfl, rfl, rfl⟩
section
variable {P : Program} {w : World} {K : PySem.W.Frag} {mg : Str → Option Value} {base : Heap}
structure LawDefs (K : PySem.W.Frag) (mg : Str → Option Value) : Prop where
  B : Bi mg
  draws : ∃ f fd, Df K mg "_law_draws" s_L_draws f fd ["_law_script"]
  next : ∃ f fd, Df K mg "_law_next" s_L_next f fd ["_law_drawn", "_law_many"]
  one : ∃ f fd, Df K mg "_law_one" s_L_one f fd ["_law_drawn", "_law_items"]
  equal : ∃ f fd, Df K mg "_law_equal" s_L_equal f fd ["_law_one_here", "_law_other"]
  divs : ∃ f fd, Df K mg "_law_divisions" s_L_divisions f fd ["_law_most"]
  due : ∃ f fd, Df K mg "_law_due" s_L_due f fd ["_law_count", "_law_levels", "_law_least"]
  chosen : ∃ f fd, Df K mg "chosen" s_chosen f fd ["count", "size"]
  wfl : ∃ f fd, Df K mg "with_further_level" s_with_further_level f fd ["numbers"]
  cbl : ∃ f fd, Df K mg "counts_by_levels" s_counts_by_levels f fd ["count", "levels"]
  cn : ∃ f fd, KoDf K mg "count_nested" s_count_nested f fd [("every", .bl false)]
/-- a pair of a count and a level -/
def CL (K : PySem.W.Frag) (H : Hp) (v : V) : Prop := ∃ (p : Addr) (c L : Nat), v = .ref p ∧ SqT K H p [.int (c : Int), .int (L : Int)] ∧ 1 ≤ c ∧ c ≤ 12 ∧ L ≤ 60
theorem CL.same {H H' : Hp} {v : V} (h : CL K H v) (e : Sm H H') : CL K H' v := by
  obtain ⟨p, c, L, h1, h2, h3⟩ := h
  exact ⟨p, c, L, h1, e.sqT h2, h3⟩
theorem CL.kp {H H' : Hp} {v : V} {d c r : Addr} {n : Nat} (h : CL K H v) (g : Dr H d c r n) (e : Kp d r H H') : CL K H' v := by
  obtain ⟨p, c, L, h1, h2, h3⟩ := h
  exact ⟨p, c, L, h1, g.kpT e h2, h3⟩
theorem CL.upd {H : Hp} {v : V} {p : Addr} {ys zs : List V} (h : CL K H v) (hp : H p = some (.lst ys)) : CL K (L2.upd H p (.lst zs)) v := by
  obtain ⟨q, c, L, h1, h2, h3⟩ := h
  exact ⟨q, c, L, h1, sqT_upd hp h2, h3⟩
def sp_law (K : PySem.W.Frag) : Sp := fun vs H Q _ => ∃ (a : Addr) (ns : List Int), vs = [.ref a] ∧ SqL K H a (ns.map V.int) ∧ ns.length ≤ 63 ∧ ∀ H', Q (.bl true) H'
theorem ok_law {f : Addr} {fd : FuncData} (F : Fun K "law" "law" s_law f fd) (T : LawDefs K mg) : FnOk P w K mg base CX0 6 f fd ["_law_script"] (sp_law K) := by
  have B := T.B
  obtain ⟨f1, fd1, D1⟩ := T.draws
  obtain ⟨fN, fdN, DN⟩ := T.next
  obtain ⟨fO, fdO, DO⟩ := T.one
  obtain ⟨fE, fdE, DE⟩ := T.equal
  obtain ⟨fV, fdV, DV⟩ := T.divs
  obtain ⟨fU, fdU, DU⟩ := T.due
  obtain ⟨fC, fdC, DC⟩ := T.chosen
  obtain ⟨fW, fdW, DW⟩ := T.wfl
  obtain ⟨fB, fdB, DB⟩ := T.cbl
  obtain ⟨fT, fdT, DT⟩ := T.cn
  obtain ⟨ds, hds, hbd⟩ := db_cn DT
  have GN : FnOk P w K mg base CX0 5 fN fdN ["_law_drawn", "_law_many"] sp_next := ok_next DN.F B
  have GO : FnOk P w K mg base CX0 5 fO fdO ["_law_drawn", "_law_items"] (sp_one K) := (ok_one DO.F DN B).mono (by decide)
  have GE : FnOk P w K mg base CX0 5 fE fdE ["_law_one_here", "_law_other"] (sp_equal K 4) := ok_equal DE B 4
  have G1 : FnOk P w K mg base CX0 5 f1 fd1 ["_law_script"] (sp_draws K) := ok_draws D1.F B
  have GU : FnOk P w K mg base CX0 5 fU fdU ["_law_count", "_law_levels", "_law_least"] (sp_Ldue K) := ok_Ldue DU.F DV B
  have GT : FnOk P w K mg base CX0 5 fT fdT ["count", "levels", "every"] (sp_cn K) := ok_cn DT.F DC DW DB B
  have kT : PySem.W.keepIn K (.ref fT) = true := DT.F.kp
  refine F.ok sc_law (fun vs H Q E h => ?_) (fun cdv A outer s H vs Q E hr h => ?_)
  · obtain ⟨a, ns, rfl, _⟩ := h
    rfl
  · obtain ⟨a, ns, rfl, hS, h63, q⟩ := h
    have nd := sc_law.nd
    refine ⟨_, pss_cons (ps_set (i := 1) nd rfl (.inl rfl) (pe_cl D1 G1 hr (pa_cons (pv 0) pa_nil)))
      (pss_cons (ps_set (i := 2) nd rfl (.inl rfl) (pe_lst
        (pa_cons (pe_tup (pa_cons pe_int (pa_cons pe_int pa_nil))) (pa_cons (pe_tup (pa_cons pe_int (pa_cons pe_int pa_nil))) (pa_cons (pe_tup (pa_cons pe_int (pa_cons pe_int pa_nil)))
        (pa_cons (pe_tup (pa_cons pe_int (pa_cons pe_int pa_nil))) (pa_cons (pe_tup (pa_cons pe_int (pa_cons pe_int pa_nil))) (pa_cons (pe_tup (pa_cons pe_int (pa_cons pe_int pa_nil)))
        (pa_cons (pe_tup (pa_cons pe_int (pa_cons pe_int pa_nil))) (pa_cons (pe_tup (pa_cons pe_int (pa_cons pe_int pa_nil))) (pa_cons (pe_tup (pa_cons pe_int (pa_cons pe_int pa_nil))) pa_nil)))))))))))
      (pss_cons (ps_for PassesOwn.never rfl (pi_range1 rfl B.range (pa_cons pe_int pa_nil)) (pg_name (i := 3) nd rfl (.inl rfl))
        (pss_one (ps_expr (pe_bm PySem.F.plainAttrs_list PySem.F.slot_list_append PySem.F.type_list_append mt_append (pv 2) (pa_cons
          (pe_tup (pa_cons (pe_op op_add pe_int (pe_cl DN GN hr (pa_cons (pv 1) (pa_cons pe_int pa_nil)))) (pa_cons (pe_cl DN GN hr (pa_cons (pv 1) (pa_cons (pe_cl DO GO hr (pa_cons (pv 1) (pa_cons (pe_lst (pa_cons pe_int (pa_cons pe_int (pa_cons pe_int pa_nil)))) pa_nil))) pa_nil))) pa_nil))) pa_nil)))))
      (pss_cons (ps_for PassesOwn.never rfl (pi_list (pv 2)) (pg_tup rfl (pgs_cons (pg_name (i := 4) nd rfl (.inl rfl)) (pgs_cons (pg_name (i := 5) nd rfl (.inl rfl)) pgs_nil)))
        (pss_cons (ps_par (i := 6) (j := 7) rfl nd rfl rfl (by decide) rfl rfl (pa_cons (pe_cl DU GU hr (pa_cons (pv 4) (pa_cons (pv 5) (pa_cons pe_int pa_nil)))) (pa_cons (pe_cl DU GU hr (pa_cons (pv 4) (pa_cons (pv 5) (pa_cons pe_int pa_nil)))) pa_nil)) rfl)
        (pss_cons (ps_set (i := 8) nd rfl (.inl rfl) (pe_tup (pa_cons (pe_call GT hr (by rfl) DT.g kT hbd hds pass0 (pa_cons (pv 4) (pa_cons (pv 5) pa_nil))) (pa_cons (pe_callK GT hr (by rfl) DT.g kT (kb_cn DT) pass0 (pa_cons (pv 4) (pa_cons (pv 5) pa_nil)) (pk_cons pe_bl pk_nil)) pa_nil))))
        (pss_cons (ps_if (PW.pt (pw_or (pt_not (pt_val (pe_cl DE GE hr (pa_cons (pv 8) (pa_cons (pe_tup (pa_cons (pv 6) (pa_cons (pv 6) pa_nil))) pa_nil)))))
            (pw_or1 (pt_not (pt_val (pe_cl DE GE hr (pa_cons (pe_call GT hr (by rfl) DT.g kT hbd hds pass0 (pa_cons (pv 4) (pa_cons (pv 5) pa_nil))) (pa_cons (pv 6) pa_nil))))))))
          (pss_one (ps_ret pe_bl)) pss_nil)
        (pss_one (ps_if (pt_not (pt_val (pe_cl DE GE hr (pa_cons (pe_callK GT hr (by rfl) DT.g kT (kb_cn DT) pass0 (pa_cons (pv 4) (pa_cons (pv 5) pa_nil)) (pk_cons pe_bl pk_nil)) (pa_cons (pv 7) pa_nil)))))
          (pss_one (ps_ret pe_bl)) pss_nil))))))
      (pss_one (ps_ret pe_bl))))), ?_⟩
    refine ⟨.ref a, rfl, a, ns, rfl, hS, h63, fun H1 d c r s1 Dr1 _ _ _ => ?_⟩
    -- the written pairs
    refine ⟨(by show 2 ≤ sizeLine; decide), fun p1 hp1 => ?_⟩
    have t1 := Sm.new (o := .tup [.int 1, .int 0]) hp1
    have q1 : CL K (upd H1 p1 (.tup [.int 1, .int 0])) (.ref p1) := ⟨p1, 1, 0, rfl, SqT.of upd_same, by decide, by decide, by decide⟩
    generalize upd H1 p1 (.tup [.int 1, .int 0]) = I1 at t1 q1
    refine ⟨(by show 2 ≤ sizeLine; decide), fun p2 hp2 => ?_⟩
    have t2 := Sm.new (o := .tup [.int 1, .int 60]) hp2
    have q2 : CL K (upd I1 p2 (.tup [.int 1, .int 60])) (.ref p2) := ⟨p2, 1, 60, rfl, SqT.of upd_same, by decide, by decide, by decide⟩
    generalize upd I1 p2 (.tup [.int 1, .int 60]) = I2 at t2 q2
    refine ⟨(by show 2 ≤ sizeLine; decide), fun p3 hp3 => ?_⟩
    have t3 := Sm.new (o := .tup [.int 2, .int 0]) hp3
    have q3 : CL K (upd I2 p3 (.tup [.int 2, .int 0])) (.ref p3) := ⟨p3, 2, 0, rfl, SqT.of upd_same, by decide, by decide, by decide⟩
    generalize upd I2 p3 (.tup [.int 2, .int 0]) = I3 at t3 q3
    refine ⟨(by show 2 ≤ sizeLine; decide), fun p4 hp4 => ?_⟩
    have t4 := Sm.new (o := .tup [.int 2, .int 60]) hp4
    have q4 : CL K (upd I3 p4 (.tup [.int 2, .int 60])) (.ref p4) := ⟨p4, 2, 60, rfl, SqT.of upd_same, by decide, by decide, by decide⟩
    generalize upd I3 p4 (.tup [.int 2, .int 60]) = I4 at t4 q4
    refine ⟨(by show 2 ≤ sizeLine; decide), fun p5 hp5 => ?_⟩
    have t5 := Sm.new (o := .tup [.int 12, .int 0]) hp5
    have q5 : CL K (upd I4 p5 (.tup [.int 12, .int 0])) (.ref p5) := ⟨p5, 12, 0, rfl, SqT.of upd_same, by decide, by decide, by decide⟩
    generalize upd I4 p5 (.tup [.int 12, .int 0]) = I5 at t5 q5
    refine ⟨(by show 2 ≤ sizeLine; decide), fun p6 hp6 => ?_⟩
    have t6 := Sm.new (o := .tup [.int 12, .int 1]) hp6
    have q6 : CL K (upd I5 p6 (.tup [.int 12, .int 1])) (.ref p6) := ⟨p6, 12, 1, rfl, SqT.of upd_same, by decide, by decide, by decide⟩
    generalize upd I5 p6 (.tup [.int 12, .int 1]) = I6 at t6 q6
    refine ⟨(by show 2 ≤ sizeLine; decide), fun p7 hp7 => ?_⟩
    have t7 := Sm.new (o := .tup [.int 12, .int 11]) hp7
    have q7 : CL K (upd I6 p7 (.tup [.int 12, .int 11])) (.ref p7) := ⟨p7, 12, 11, rfl, SqT.of upd_same, by decide, by decide, by decide⟩
    generalize upd I6 p7 (.tup [.int 12, .int 11]) = I7 at t7 q7
    refine ⟨(by show 2 ≤ sizeLine; decide), fun p8 hp8 => ?_⟩
    have t8 := Sm.new (o := .tup [.int 12, .int 12]) hp8
    have q8 : CL K (upd I7 p8 (.tup [.int 12, .int 12])) (.ref p8) := ⟨p8, 12, 12, rfl, SqT.of upd_same, by decide, by decide, by decide⟩
    generalize upd I7 p8 (.tup [.int 12, .int 12]) = I8 at t8 q8
    refine ⟨(by show 2 ≤ sizeLine; decide), fun p9 hp9 => ?_⟩
    have t9 := Sm.new (o := .tup [.int 12, .int 60]) hp9
    have q9 : CL K (upd I8 p9 (.tup [.int 12, .int 60])) (.ref p9) := ⟨p9, 12, 60, rfl, SqT.of upd_same, by decide, by decide, by decide⟩
    generalize upd I8 p9 (.tup [.int 12, .int 60]) = I9 at t9 q9
    refine ⟨(by show 9 ≤ sizeLine; decide), fun L hL => ?_⟩
    have sL := Sm.new (o := .lst [.ref p1, .ref p2, .ref p3, .ref p4, .ref p5, .ref p6, .ref p7, .ref p8, .ref p9]) hL
    have D9 : Dr I9 d c r 0 := (((((((((Dr1.same t1).same t2).same t3).same t4).same t5).same t6).same t7).same t8).same t9)
    have nL := D9.ne hL
    have all9 : ∀ v ∈ [V.ref p1, V.ref p2, V.ref p3, V.ref p4, V.ref p5, V.ref p6, V.ref p7, V.ref p8, V.ref p9], CL K (upd I9 L (.lst [.ref p1, .ref p2, .ref p3, .ref p4, .ref p5, .ref p6, .ref p7, .ref p8, .ref p9])) v := by
      intro v hv
      simp only [List.mem_cons, List.not_mem_nil, or_false] at hv
      rcases hv with rfl | rfl | rfl | rfl | rfl | rfl | rfl | rfl | rfl
      · exact ((((((((q1.same t2).same t3).same t4).same t5).same t6).same t7).same t8).same t9).same sL
      · exact (((((((q2.same t3).same t4).same t5).same t6).same t7).same t8).same t9).same sL
      · exact ((((((q3.same t4).same t5).same t6).same t7).same t8).same t9).same sL
      · exact (((((q4.same t5).same t6).same t7).same t8).same t9).same sL
      · exact ((((q5.same t6).same t7).same t8).same t9).same sL
      · exact (((q6.same t7).same t8).same t9).same sL
      · exact ((q7.same t8).same t9).same sL
      · exact (q8.same t9).same sL
      · exact q9.same sL
    have aL : upd I9 L (.lst [.ref p1, .ref p2, .ref p3, .ref p4, .ref p5, .ref p6, .ref p7, .ref p8, .ref p9]) L = some (.lst [.ref p1, .ref p2, .ref p3, .ref p4, .ref p5, .ref p6, .ref p7, .ref p8, .ref p9]) := upd_same
    have D10 := D9.same sL
    generalize upd I9 L (.lst [.ref p1, .ref p2, .ref p3, .ref p4, .ref p5, .ref p6, .ref p7, .ref p8, .ref p9]) = J0 at sL all9 aL D10
    refine ⟨10, rfl, by decide, by decide, for_range (n := 10) (fun i σ Hx => ∃ x3 xs, σ = [some (.ref a), some (.ref d), some (.ref L), x3, none, none, none, none, none] ∧ Hx L = some (.lst xs) ∧ xs.length ≤ 9 + i ∧ (∀ v ∈ xs, CL K Hx v) ∧ Dr Hx d c r (3 * i))
      ⟨none, _, rfl, aL, (by show 9 ≤ 9; decide), all9, D10⟩ (fun i σ Hx hi hI => ?_) (fun σ Hx hI => ?_)⟩
    · obtain ⟨x3, xs, rfl, hxs, hxl, hall, hD⟩ := hI
      show _
      refine ⟨.ref L, rfl, .inl ⟨rfl, _, SqL.of hxs⟩, .ref d, rfl, d, c, r, _, 12, rfl, hD, by omega, by decide, by decide, fun H2 k2 l2 D2 kp2 => ?_⟩
      refine ⟨_, _, rfl, rfl, .ref d, rfl, .ref d, rfl, (by show 3 ≤ sizeLine; decide), fun l3 hl3 => ?_⟩
      have n3 := D2.ne hl3
      refine ⟨d, c, r, _, l3, _, rfl, D2.new hl3, by omega, SqL.of upd_same, n3.1, n3.2.2, (by show 0 < 3; decide), (by show 3 ≤ 1000; decide), fun H4 i4 v4 hv4 D4 kp4 => ?_⟩
      obtain ⟨m4, rfl, b4⟩ : ∃ m : Int, v4 = .int m ∧ (0 < m ∧ m ≤ 61) := by
        match i4, hv4 with
        | 0, h => cases Option.some.inj h; exact ⟨4, rfl, by decide⟩
        | 1, h => cases Option.some.inj h; exact ⟨13, rfl, by decide⟩
        | 2, h => cases Option.some.inj h; exact ⟨61, rfl, by decide⟩
        | k + 3, h => simp at h
      refine ⟨d, c, r, _, m4, rfl, D4, by omega, by omega, by omega, fun H5 k5 l5 D5 kp5 => ?_⟩
      have kpa : Kp d r Hx H5 := kp2.trans ((Kp.new hl3).trans (kp4.trans kp5))
      refine ⟨(by show 2 ≤ sizeLine; decide), fun p6 hp6 => ?_⟩
      have s6 := Sm.new (o := .tup [.int (1 + (k2 : Int)), .int (k5 : Int)]) hp6
      have hxs6 := s6 _ _ (kpa _ _ hxs nL.1 nL.2.2)
      refine ⟨L, xs, _, rfl, rfl, hxs6, small1000 (by omega), ⟨_, _, rfl, upd_same, by rw [List.length_append]; simp; omega, fun v hv => ?_, ?_⟩⟩
      · rcases List.mem_append.mp hv with hv | hv
        · exact (((hall v hv).kp hD kpa).same s6).upd hxs6
        · rw [List.mem_singleton.mp hv]
          refine CL.upd ⟨p6, 1 + k2, k5, rfl, ?_, by omega, by omega, by omega⟩ hxs6
          rw [show ((1 + k2 : Nat) : Int) = 1 + (k2 : Int) by omega]
          exact SqT.of upd_same
      · exact ((D5.same s6).upd nL.1 nL.2.1 nL.2.2).mono (by omega)
    · obtain ⟨x3, xs, rfl, hxs, hxl, hall, hD⟩ := hI
      refine ⟨.ref L, rfl, L, rfl, ⟨_, SqL.of hxs⟩, for_list (xs := xs) (fun m σ Hz => ∃ x4 x5 x6 x7 x8, σ = [some (.ref a), some (.ref d), some (.ref L), x3, x4, x5, x6, x7, x8] ∧ Sm Hx Hz) ⟨none, none, none, none, none, rfl, Sm.refl _⟩ (fun m σ Hz _ hI => ?_) (fun m v σ Hz hv hI => ?_) (fun σ Hz hI => ?_)⟩
      · obtain ⟨_, _, _, _, _, _, sz⟩ := hI
        exact SqL.of (sz _ _ hxs)
      · obtain ⟨x4, x5, x6, x7, x8, rfl, sz⟩ := hI
        obtain ⟨qp, cn, lv, rfl, hqp, c1, c12, l60⟩ := (hall v (List.mem_of_getElem? hv)).same sz
        refine ⟨qp, _, rfl, hqp, rfl, _, _, rfl, _, _, rfl, rfl, ?_⟩
        refine ⟨.int (cn : Int), rfl, .int (lv : Int), rfl, cn, lv, 0, rfl, c1, c12, l60, by decide, fun H2 s2 => ?_⟩
        refine ⟨.int (cn : Int), rfl, .int (lv : Int), rfl, cn, lv, 1, rfl, c1, c12, l60, by decide, fun H3 s3 => ?_⟩
        rw [cnt0 c1 c12 l60, cnt1 c1 c12 l60]
        refine ⟨_, _, rfl, ?_⟩
        refine ⟨.int (cn : Int), rfl, .int (lv : Int), rfl, cn, lv, false, rfl, c1, c12, l60, fun H4 s4 => ?_⟩
        refine ⟨.int (cn : Int), rfl, .int (lv : Int), rfl, cn, lv, false, rfl, c1, c12, l60, fun H5 s5 => ?_⟩
        refine ⟨(by show 2 ≤ sizeLine; decide), fun t1 ht1 => ?_⟩
        have e1 : Dp K (upd H5 t1 (.tup [.int (N0 lv cn), .int (N0 lv cn)])) (.ref t1) (.tuple [.int (N0 lv cn), .int (N0 lv cn)]) := .tup (SqT.of upd_same) (.cons (.int _) (.cons (.int _) .nil))
        have st1 := Sm.new (o := .tup [.int (N0 lv cn), .int (N0 lv cn)]) ht1
        refine ⟨.ref t1, rfl, .int (N0 lv cn), rfl, .int (N0 lv cn), rfl, (by show 2 ≤ sizeLine; decide), fun t2 ht2 => ?_⟩
        have e2 : Dp K (upd (upd H5 t1 (.tup [.int (N0 lv cn), .int (N0 lv cn)])) t2 (.tup [.int (N0 lv cn), .int (N0 lv cn)])) (.ref t2) (.tuple [.int (N0 lv cn), .int (N0 lv cn)]) := .tup (SqT.of upd_same) (.cons (.int _) (.cons (.int _) .nil))
        have st2 := Sm.new (o := .tup [.int (N0 lv cn), .int (N0 lv cn)]) ht2
        refine ⟨_, _, _, rfl, Dp.same st2 _ _ e1, e2, okD_ints 2 [N0 lv cn, N0 lv cn] (by show 2 ≤ 1000; decide), fun H6 s6 => ⟨true, rfl, ?_⟩⟩
        refine ⟨.int (cn : Int), rfl, .int (lv : Int), rfl, cn, lv, false, rfl, c1, c12, l60, fun H7 s7 => ?_⟩
        refine ⟨.int (N0 lv cn), rfl, _, _, _, rfl, .int _, .int _, okD_int _ _, fun H8 s8 => ⟨true, rfl, ?_⟩⟩
        refine ⟨.int (cn : Int), rfl, .int (lv : Int), rfl, cn, lv, true, rfl, c1, c12, l60, fun H9 s9 => ?_⟩
        refine ⟨.int (Df' lv 0 cn), rfl, _, _, _, rfl, .int _, .int _, okD_int _ _, fun HA sA => ⟨true, rfl, ?_⟩⟩
        exact ⟨_, _, _, _, _, rfl, sz.trans (s2.trans (s3.trans (s4.trans (s5.trans (st1.trans (st2.trans (s6.trans (s7.trans (s8.trans (s9.trans sA))))))))))⟩
      · obtain ⟨x4, x5, x6, x7, x8, rfl, sz⟩ := hI
        exact q _
end
/-! ### what the top has written -/
theorem df_mk {K : PySem.W.Frag} {h : Heap} {mg : Str → Option Value} {x : Str} {st : Stmt} {f : Addr} {od an : Option Addr} {sl : Array (Option Value)} {oc kV dc pm cd ct : Value} {ps : List Str} (X : K.In h) (G : h.Ns mainGlobals mg)
    (a : PySem.W.nsIn K mainGlobals x = some (some (.ref f))) (l : K.lookup f = some ⟨oc, od, .func (PySem.W.fnOf x x (defArgs st) (defBody st) (defScope st) .none kV dc pm an cd ct), sl⟩) (c : PySem.W.codeIn K cd x = true) (k : PySem.W.keepIn K (.ref f) = true)
    (b : ∀ (kV doc pm : Value) (an : Option Addr) (cdv ct : Value) (us : List Value), us.length = ps.length → bindArgs (PySem.W.fnOf x x (defArgs st) (defBody st) (defScope st) .none kV doc pm an cdv ct) ⟨us, []⟩ = pure (ps.zip us)) :
    Df K mg x st f (PySem.W.fnOf x x (defArgs st) (defBody st) (defScope st) .none kV dc pm an cd ct) ps := ⟨fun_mk l c k, (fun_mk l c k).binds b, PySem.W.mg_of X G a⟩
theorem all_mk {l : PySem.W.OpenLaw} {w : World} {K : PySem.W.Frag} {h : Heap} {mg : Str → Option Value} {fa : Addr} (X : K.In h) (G : h.Ns mainGlobals mg) (hfa : mg "law" = some (.ref fa))
    {f1 : Addr} {od1 an1 : Option Addr} {sl1 : Array (Option Value)} {oc1 kV1 dc1 pm1 cd1 ct1 : Value} (a1 : PySem.W.nsIn K mainGlobals "chosen" = some (some (.ref f1))) (l1 : K.lookup f1 = some ⟨oc1, od1, .func (PySem.W.fnOf "chosen" "chosen" (defArgs s_chosen) (defBody s_chosen) (defScope s_chosen) .none kV1 dc1 pm1 an1 cd1 ct1), sl1⟩) (c1 : PySem.W.codeIn K cd1 "chosen" = true) (k1 : PySem.W.keepIn K (.ref f1) = true)
    {f2 : Addr} {od2 an2 : Option Addr} {sl2 : Array (Option Value)} {oc2 kV2 dc2 pm2 cd2 ct2 : Value} (a2 : PySem.W.nsIn K mainGlobals "with_further_level" = some (some (.ref f2))) (l2 : K.lookup f2 = some ⟨oc2, od2, .func (PySem.W.fnOf "with_further_level" "with_further_level" (defArgs s_with_further_level) (defBody s_with_further_level) (defScope s_with_further_level) .none kV2 dc2 pm2 an2 cd2 ct2), sl2⟩) (c2 : PySem.W.codeIn K cd2 "with_further_level" = true) (k2 : PySem.W.keepIn K (.ref f2) = true)
    {f3 : Addr} {od3 an3 : Option Addr} {sl3 : Array (Option Value)} {oc3 kV3 dc3 pm3 cd3 ct3 : Value} (a3 : PySem.W.nsIn K mainGlobals "counts_by_levels" = some (some (.ref f3))) (l3 : K.lookup f3 = some ⟨oc3, od3, .func (PySem.W.fnOf "counts_by_levels" "counts_by_levels" (defArgs s_counts_by_levels) (defBody s_counts_by_levels) (defScope s_counts_by_levels) .none kV3 dc3 pm3 an3 cd3 ct3), sl3⟩) (c3 : PySem.W.codeIn K cd3 "counts_by_levels" = true) (k3 : PySem.W.keepIn K (.ref f3) = true)
    {f4 kD4 : Addr} {od4 an4 : Option Addr} {sl4 : Array (Option Value)} {oc4 dc4 pm4 cd4 ct4 : Value} (a4 : PySem.W.nsIn K mainGlobals "count_nested" = some (some (.ref f4))) (l4 : K.lookup f4 = some ⟨oc4, od4, .func (PySem.W.fnOf "count_nested" "count_nested" (defArgs s_count_nested) (defBody s_count_nested) (defScope s_count_nested) .none (.ref kD4) dc4 pm4 an4 cd4 ct4), sl4⟩) (c4 : PySem.W.codeIn K cd4 "count_nested" = true) (k4 : PySem.W.keepIn K (.ref f4) = true) (e4 : PySem.W.nsIn K kD4 "every" = some (some (.bool false)))
    {f5 : Addr} {od5 an5 : Option Addr} {sl5 : Array (Option Value)} {oc5 kV5 dc5 pm5 cd5 ct5 : Value} (a5 : PySem.W.nsIn K mainGlobals "_law_draws" = some (some (.ref f5))) (l5 : K.lookup f5 = some ⟨oc5, od5, .func (PySem.W.fnOf "_law_draws" "_law_draws" (defArgs s_L_draws) (defBody s_L_draws) (defScope s_L_draws) .none kV5 dc5 pm5 an5 cd5 ct5), sl5⟩) (c5 : PySem.W.codeIn K cd5 "_law_draws" = true) (k5 : PySem.W.keepIn K (.ref f5) = true)
    {f6 : Addr} {od6 an6 : Option Addr} {sl6 : Array (Option Value)} {oc6 kV6 dc6 pm6 cd6 ct6 : Value} (a6 : PySem.W.nsIn K mainGlobals "_law_next" = some (some (.ref f6))) (l6 : K.lookup f6 = some ⟨oc6, od6, .func (PySem.W.fnOf "_law_next" "_law_next" (defArgs s_L_next) (defBody s_L_next) (defScope s_L_next) .none kV6 dc6 pm6 an6 cd6 ct6), sl6⟩) (c6 : PySem.W.codeIn K cd6 "_law_next" = true) (k6 : PySem.W.keepIn K (.ref f6) = true)
    {f7 : Addr} {od7 an7 : Option Addr} {sl7 : Array (Option Value)} {oc7 kV7 dc7 pm7 cd7 ct7 : Value} (a7 : PySem.W.nsIn K mainGlobals "_law_one" = some (some (.ref f7))) (l7 : K.lookup f7 = some ⟨oc7, od7, .func (PySem.W.fnOf "_law_one" "_law_one" (defArgs s_L_one) (defBody s_L_one) (defScope s_L_one) .none kV7 dc7 pm7 an7 cd7 ct7), sl7⟩) (c7 : PySem.W.codeIn K cd7 "_law_one" = true) (k7 : PySem.W.keepIn K (.ref f7) = true)
    {f8 : Addr} {od8 an8 : Option Addr} {sl8 : Array (Option Value)} {oc8 kV8 dc8 pm8 cd8 ct8 : Value} (a8 : PySem.W.nsIn K mainGlobals "_law_equal" = some (some (.ref f8))) (l8 : K.lookup f8 = some ⟨oc8, od8, .func (PySem.W.fnOf "_law_equal" "_law_equal" (defArgs s_L_equal) (defBody s_L_equal) (defScope s_L_equal) .none kV8 dc8 pm8 an8 cd8 ct8), sl8⟩) (c8 : PySem.W.codeIn K cd8 "_law_equal" = true) (k8 : PySem.W.keepIn K (.ref f8) = true)
    {f9 : Addr} {od9 an9 : Option Addr} {sl9 : Array (Option Value)} {oc9 kV9 dc9 pm9 cd9 ct9 : Value} (a9 : PySem.W.nsIn K mainGlobals "_law_divisions" = some (some (.ref f9))) (l9 : K.lookup f9 = some ⟨oc9, od9, .func (PySem.W.fnOf "_law_divisions" "_law_divisions" (defArgs s_L_divisions) (defBody s_L_divisions) (defScope s_L_divisions) .none kV9 dc9 pm9 an9 cd9 ct9), sl9⟩) (c9 : PySem.W.codeIn K cd9 "_law_divisions" = true) (k9 : PySem.W.keepIn K (.ref f9) = true)
    {f10 : Addr} {od10 an10 : Option Addr} {sl10 : Array (Option Value)} {oc10 kV10 dc10 pm10 cd10 ct10 : Value} (a10 : PySem.W.nsIn K mainGlobals "_law_due" = some (some (.ref f10))) (l10 : K.lookup f10 = some ⟨oc10, od10, .func (PySem.W.fnOf "_law_due" "_law_due" (defArgs s_L_due) (defBody s_L_due) (defScope s_L_due) .none kV10 dc10 pm10 an10 cd10 ct10), sl10⟩) (c10 : PySem.W.codeIn K cd10 "_law_due" = true) (k10 : PySem.W.keepIn K (.ref f10) = true)
    {f11 : Addr} {od11 an11 : Option Addr} {sl11 : Array (Option Value)} {oc11 kV11 dc11 pm11 cd11 ct11 : Value} (a11 : PySem.W.nsIn K mainGlobals "law" = some (some (.ref f11))) (l11 : K.lookup f11 = some ⟨oc11, od11, .func (PySem.W.fnOf "law" "law" (defArgs s_law) (defBody s_law) (defScope s_law) .none kV11 dc11 pm11 an11 cd11 ct11), sl11⟩) (c11 : PySem.W.codeIn K cd11 "law" = true) (k11 : PySem.W.keepIn K (.ref f11) = true)
      (z1 : PySem.W.nsIn K mainGlobals "len" = some none) (z2 : PySem.W.nsIn K mainGlobals "list" = some none) (z3 : PySem.W.nsIn K mainGlobals "int" = some none) (z4 : PySem.W.nsIn K mainGlobals "range" = some none) (z5 : PySem.W.nsIn K mainGlobals "sorted" = some none) (z6 : PySem.W.nsIn K mainGlobals "set" = some none) (z7 : PySem.W.nsIn K mainGlobals "tuple" = some none) (z8 : PySem.W.nsIn K mainGlobals "min" = some none) (z9 : PySem.W.nsIn K mainGlobals "max" = some none) (z10 : PySem.W.nsIn K mainGlobals "isinstance" = some none) (z11 : PySem.W.nsIn K mainGlobals "bool" = some none) (z12 : PySem.W.nsIn K mainGlobals "str" = some none) (z13 : PySem.W.nsIn K mainGlobals "all" = some none) (z14 : PySem.W.nsIn K mainGlobals "zip" = some none) (z15 : PySem.W.nsIn K mainGlobals "repr" = some none) (z16 : PySem.W.nsIn K mainGlobals "enumerate" = some none) (z17 : PySem.W.nsIn K mainGlobals "abs" = some none) (z18 : PySem.W.nsIn K mainGlobals "sum" = some none) (z19 : PySem.W.nsIn K mainGlobals "dict" = some none) :
    ∃ fd : FuncData, (∀ (s : Shared) (v : Value), BindsTo s fd ⟨[v], []⟩ [("_law_script", v)]) ∧ ∀ base : Heap, K.In base → base.Ns mainGlobals mg → FnOk l.prog w K mg base CX0 6 fa fd ["_law_script"] (sp_law K) := by
  have e := hfa.symm.trans (PySem.W.mg_of X G a11)
  cases e
  have B : Bi mg := ⟨PySem.W.mg_none_of X G z1, PySem.W.mg_none_of X G z2, PySem.W.mg_none_of X G z3, PySem.W.mg_none_of X G z4, PySem.W.mg_none_of X G z5, PySem.W.mg_none_of X G z6, PySem.W.mg_none_of X G z7, PySem.W.mg_none_of X G z8, PySem.W.mg_none_of X G z9, PySem.W.mg_none_of X G z10, PySem.W.mg_none_of X G z11, PySem.W.mg_none_of X G z12, PySem.W.mg_none_of X G z13, PySem.W.mg_none_of X G z14, PySem.W.mg_none_of X G z15, PySem.W.mg_none_of X G z16, PySem.W.mg_none_of X G z17, PySem.W.mg_none_of X G z18, PySem.W.mg_none_of X G z19⟩
  have d_chosen := df_mk (st := s_chosen) (ps := ["count", "size"]) X G a1 l1 c1 k1 (fun _ _ _ _ _ _ us hl => match us, hl with | [_, _], _ => rfl)
  have d_with_further_level := df_mk (st := s_with_further_level) (ps := ["numbers"]) X G a2 l2 c2 k2 (fun _ _ _ _ _ _ us hl => match us, hl with | [_], _ => rfl)
  have d_counts_by_levels := df_mk (st := s_counts_by_levels) (ps := ["count", "levels"]) X G a3 l3 c3 k3 (fun _ _ _ _ _ _ us hl => match us, hl with | [_, _], _ => rfl)
  have d_count_nested := kd_mk (st := s_count_nested) X G a4 l4 c4 k4 e4
  have d_L_draws := df_mk (st := s_L_draws) (ps := ["_law_script"]) X G a5 l5 c5 k5 (fun _ _ _ _ _ _ us hl => match us, hl with | [_], _ => rfl)
  have d_L_next := df_mk (st := s_L_next) (ps := ["_law_drawn", "_law_many"]) X G a6 l6 c6 k6 (fun _ _ _ _ _ _ us hl => match us, hl with | [_, _], _ => rfl)
  have d_L_one := df_mk (st := s_L_one) (ps := ["_law_drawn", "_law_items"]) X G a7 l7 c7 k7 (fun _ _ _ _ _ _ us hl => match us, hl with | [_, _], _ => rfl)
  have d_L_equal := df_mk (st := s_L_equal) (ps := ["_law_one_here", "_law_other"]) X G a8 l8 c8 k8 (fun _ _ _ _ _ _ us hl => match us, hl with | [_, _], _ => rfl)
  have d_L_divisions := df_mk (st := s_L_divisions) (ps := ["_law_most"]) X G a9 l9 c9 k9 (fun _ _ _ _ _ _ us hl => match us, hl with | [_], _ => rfl)
  have d_L_due := df_mk (st := s_L_due) (ps := ["_law_count", "_law_levels", "_law_least"]) X G a10 l10 c10 k10 (fun _ _ _ _ _ _ us hl => match us, hl with | [_, _, _], _ => rfl)
  have T : LawDefs K mg := ⟨B, ⟨_, _, d_L_draws⟩, ⟨_, _, d_L_next⟩, ⟨_, _, d_L_one⟩, ⟨_, _, d_L_equal⟩, ⟨_, _, d_L_divisions⟩, ⟨_, _, d_L_due⟩, ⟨_, _, d_chosen⟩, ⟨_, _, d_with_further_level⟩, ⟨_, _, d_counts_by_levels⟩, ⟨_, _, d_count_nested⟩⟩
  exact ⟨PySem.W.fnOf "law" "law" (defArgs s_law) (defBody s_law) (defScope s_law) .none kV11 dc11 pm11 an11 cd11 ct11, fun s v => .of_eq rfl, fun base _ _ => ok_law (fun_mk l11 c11 k11) T⟩
end Ml
open PySem PySem.W PyProof.Rows
set_option maxHeartbeats 0 in
theorem PySem.Challenge.cw_mergelevels_k65_nested_tables_counted_holds : PySem.Challenge.rw_mergelevels_k65_nested_tables_counted.Holds := by
  w_on; o_law; k_head; (case hw => w_witness2)
  k_fill
  refine L2.walk_ofK (l := PySem.Challenge.rw_mergelevels_k65_nested_tables_counted) (n := 63) (k := 6) (x := "_law_script") (CX := L2.CX0) (sp := Ml.sp_law) rfl (by decide) rfl ⟨rfl, by decide, by decide⟩ (fun w h Y => PySem.W.kIn_of Y) ?F (fun K H a ns hl _ hS => ⟨a, ns, rfl, hS, hl, fun _ => rfl⟩) (fun _ _ _ _ h => h)
  case F =>
    intro w mg fa h KX G hmg
    refine' Ml.all_mk KX G hmg ?a1 ?l1 ?c1 ?k1 ?a2 ?l2 ?c2 ?k2 ?a3 ?l3 ?c3 ?k3 ?a4 ?l4 ?c4 ?k4 ?e4 ?a5 ?l5 ?c5 ?k5 ?a6 ?l6 ?c6 ?k6 ?a7 ?l7 ?c7 ?k7 ?a8 ?l8 ?c8 ?k8 ?a9 ?l9 ?c9 ?k9 ?a10 ?l10 ?c10 ?k10 ?a11 ?l11 ?c11 ?k11 ?z1 ?z2 ?z3 ?z4 ?z5 ?z6 ?z7 ?z8 ?z9 ?z10 ?z11 ?z12 ?z13 ?z14 ?z15 ?z16 ?z17 ?z18 ?z19
    (case a1 => k_is)
    (case l1 => k_is)
    (case c1 => k_is)
    (case k1 => k_is)
    (case a2 => k_is)
    (case l2 => k_is)
    (case c2 => k_is)
    (case k2 => k_is)
    (case a3 => k_is)
    (case l3 => k_is)
    (case c3 => k_is)
    (case k3 => k_is)
    (case a4 => k_is)
    (case l4 => k_is)
    (case c4 => k_is)
    (case k4 => k_is)
    (case e4 => k_is)
    (case a5 => k_is)
    (case l5 => k_is)
    (case c5 => k_is)
    (case k5 => k_is)
    (case a6 => k_is)
    (case l6 => k_is)
    (case c6 => k_is)
    (case k6 => k_is)
    (case a7 => k_is)
    (case l7 => k_is)
    (case c7 => k_is)
    (case k7 => k_is)
    (case a8 => k_is)
    (case l8 => k_is)
    (case c8 => k_is)
    (case k8 => k_is)
    (case a9 => k_is)
    (case l9 => k_is)
    (case c9 => k_is)
    (case k9 => k_is)
    (case a10 => k_is)
    (case l10 => k_is)
    (case c10 => k_is)
    (case k10 => k_is)
    (case a11 => k_is)
    (case l11 => k_is)
    (case c11 => k_is)
    (case k11 => k_is)
    (case z1 => k_is)
    (case z2 => k_is)
    (case z3 => k_is)
    (case z4 => k_is)
    (case z5 => k_is)
    (case z6 => k_is)
    (case z7 => k_is)
    (case z8 => k_is)
    (case z9 => k_is)
    (case z10 => k_is)
    (case z11 => k_is)
    (case z12 => k_is)
    (case z13 => k_is)
    (case z14 => k_is)
    (case z15 => k_is)
    (case z16 => k_is)
    (case z17 => k_is)
    (case z18 => k_is)
    (case z19 => k_is)

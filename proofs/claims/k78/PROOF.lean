import PyProof.Rows.All
import Wide.All
import OpenK.AllK
import Wide.FinOn
import HandS.Base
import HandS.Call
import HandS.List
import HandS.Comp
import HandS.Ends
import HandS.Iter
import HandS.NoneIn
import HandS.SetFor
import HandS.IsInst
import HandS.Zip
import HandS.Words
import PyProof.ReprRoads
import KE.DataMinMax
import KE.LtData
import HandS.SortKw
import HandS.Zip0
import PyProof.Draws
import PyProof.EnumMake
import HandS.Defaults
import HandS.TupAny
import HandS.Star
import HandS.TupMul
import KE.KIndexOf
import HandS.Text
import HandS.StrMore
import HandS.FStr
import KE.GoesEnumKw
import HandS.IterVal
import HandS.Dict
import HandS.Style
import HandS.Deep
import KE.KRevSl
import PyProof.P3In
import KE.GoesZip
import KE.GoesMore
import PyProof.CallFns
import HandS.Strs
import HandS.SetBool
import HandS.SortInts
import PyProof.SetRoads
import KE.KParD
import HandS.Walk
import HandS.DictComp
import HandS.TupSets
import KE.SortData
import KE.KDictZip
import HandS.RaiseMore
import HandS.TryOnly
import HandS.Property
import KE.KUnpackStar
import HandS.Head2
import HandS.HeadEnd
import HandS.HeadHook2
import KE.KExcInit
import HandS.Wide
import HandS.Codes
import HandS.Conv
import HandS.Flow
import PySem.Challenge.RW_mergelevels_k78_texts_of_tables_and_tree
set_option Elab.async false
set_option linter.all false
set_option maxRecDepth 100000
set_option maxHeartbeats 4000000
namespace Ml
open PySem PySem.Spec PyProof.Rows L2
/-! ### heaps -/
def Sm (H H' : Hp) : Prop := ∀ b o, H b = some o → H' b = some o
theorem Sm.refl (H : Hp) : Sm H H := fun _ _ h => h
theorem Sm.trans {H H1 H2 : Hp} (a : Sm H H1) (b : Sm H1 H2) : Sm H H2 := fun c o h => b c o (a c o h)
theorem Sm.new {H : Hp} {p : Addr} {o : HO} (h : H p = none) : Sm H (upd H p o) := fun b x e => by
  rw [upd_ne (ne_of_none e h)]
  exact e
theorem Sm.free {H H' : Hp} (e : Sm H H') {l : Addr} (h : H' l = none) : H l = none := by
  cases q : H l with
  | none => rfl
  | some o => rw [e l o q] at h; cases h
theorem Sm.rd {H H' : Hp} {a : Addr} {u : HO} (e : Sm H H') (h : Rd H a u) : Rd H' a u := by
  rcases h with h | ⟨o, h⟩
  · exact .inl (e _ _ h)
  · exact .inr ⟨o, e _ _ h⟩
theorem Sm.sqL {K : PySem.W.Frag} {H H' : Hp} {a : Addr} {xs : List V} (e : Sm H H') (h : SqL K H a xs) : SqL K H' a xs := by
  rcases h with h | h
  · exact .inl (e.rd h)
  · exact .inr h
theorem Sm.sqT {K : PySem.W.Frag} {H H' : Hp} {a : Addr} {xs : List V} (e : Sm H H') (h : SqT K H a xs) : SqT K H' a xs := by
  rcases h with h | h
  · exact .inl (e.rd h)
  · exact .inr h
/-- all but the two places of a drawing stays -/
def Kp (d r : Addr) (H H' : Hp) : Prop := ∀ b o, H b = some o → b ≠ d → b ≠ r → H' b = some o
theorem Kp.refl (d r : Addr) (H : Hp) : Kp d r H H := fun _ _ h _ _ => h
theorem Kp.trans {d r : Addr} {H H1 H2 : Hp} (a : Kp d r H H1) (b : Kp d r H1 H2) : Kp d r H H2 := fun c o h h1 h2 => b c o (a c o h h1 h2) h1 h2
theorem Sm.kp {d r : Addr} {H H' : Hp} (a : Sm H H') : Kp d r H H' := fun c o h _ _ => a c o h
theorem Kp.new {d r : Addr} {H : Hp} {p : Addr} {o : HO} (h : H p = none) : Kp d r H (upd H p o) := (Sm.new h).kp
theorem Kp.sqL {K : PySem.W.Frag} {d r : Addr} {H H' : Hp} {a : Addr} {xs : List V} (e : Kp d r H H') (h1 : a ≠ d) (h2 : a ≠ r) (h : SqL K H a xs) : SqL K H' a xs := by
  rcases h with (h | ⟨o, h⟩) | h
  · exact .inl (.inl (e _ _ h h1 h2))
  · exact .inl (.inr ⟨o, e _ _ h h1 h2⟩)
  · exact .inr h
/-- what is drawn from: the cells, how often, the rests -/
structure Dr (H : Hp) (d c r : Addr) (n : Nat) : Prop where
  ex : ∃ (cells rests : List Int) (t : Nat), H d = some (.lst [.ref c, .int (t : Int), .ref r]) ∧ H c = some (.lst (cells.map V.int)) ∧ H r = some (.lst (rests.map V.int)) ∧
    cells.length = rests.length ∧ 0 < cells.length ∧ cells.length ≤ 64 ∧ t ≤ n ∧ ∀ x ∈ rests, 0 ≤ x
  dc : d ≠ c
  dr : d ≠ r
  cr : c ≠ r
theorem Dr.d_lst {H : Hp} {d c r : Addr} {n : Nat} (h : Dr H d c r n) : ∃ xs, H d = some (.lst xs) := by
  obtain ⟨_, _, _, h1, _⟩ := h.ex
  exact ⟨_, h1⟩
theorem Dr.r_lst {H : Hp} {d c r : Addr} {n : Nat} (h : Dr H d c r n) : ∃ xs, H r = some (.lst xs) := by
  obtain ⟨_, _, _, _, _, h1, _⟩ := h.ex
  exact ⟨_, h1⟩
theorem Dr.c_lst {H : Hp} {d c r : Addr} {n : Nat} (h : Dr H d c r n) : ∃ xs, H c = some (.lst xs) := by
  obtain ⟨_, _, _, _, h1, _⟩ := h.ex
  exact ⟨_, h1⟩
theorem Dr.mono {H : Hp} {d c r : Addr} {n m : Nat} (h : Dr H d c r n) (e : n ≤ m) : Dr H d c r m := by
  obtain ⟨⟨cs, rs, t, h1, h2, h3, h4, h5, h6, h7, h8⟩, a, b, k⟩ := h
  exact ⟨⟨cs, rs, t, h1, h2, h3, h4, h5, h6, Nat.le_trans h7 e, h8⟩, a, b, k⟩
theorem Dr.same {H H' : Hp} {d c r : Addr} {n : Nat} (h : Dr H d c r n) (e : Sm H H') : Dr H' d c r n := by
  obtain ⟨⟨cs, rs, t, h1, h2, h3, h4⟩, a, b, k⟩ := h
  exact ⟨⟨cs, rs, t, e _ _ h1, e _ _ h2, e _ _ h3, h4⟩, a, b, k⟩
/-- an object that is stored into, elsewhere -/
theorem Dr.upd {H : Hp} {d c r p : Addr} {n : Nat} {o : HO} (h : Dr H d c r n) (h1 : p ≠ d) (h2 : p ≠ c) (h3 : p ≠ r) : Dr (L2.upd H p o) d c r n := by
  obtain ⟨⟨cs, rs, t, e1, e2, e3, e4⟩, a, b, k⟩ := h
  refine ⟨⟨cs, rs, t, ?_, ?_, ?_, e4⟩, a, b, k⟩
  · rw [upd_ne h1.symm]; exact e1
  · rw [upd_ne h2.symm]; exact e2
  · rw [upd_ne h3.symm]; exact e3
theorem Dr.new {H : Hp} {d c r p : Addr} {n : Nat} {o : HO} (h : Dr H d c r n) (hp : H p = none) : Dr (L2.upd H p o) d c r n := h.same (Sm.new hp)
theorem Dr.ne {H : Hp} {d c r p : Addr} {n : Nat} (h : Dr H d c r n) (hp : H p = none) : p ≠ d ∧ p ≠ c ∧ p ≠ r := by
  obtain ⟨x, h1⟩ := h.d_lst
  obtain ⟨y, h2⟩ := h.c_lst
  obtain ⟨z, h3⟩ := h.r_lst
  exact ⟨(ne_of_none h1 hp).symm, (ne_of_none h2 hp).symm, (ne_of_none h3 hp).symm⟩
theorem Dr.kpT {K : PySem.W.Frag} {H H' : Hp} {d c r a : Addr} {n : Nat} {xs : List V} (h : Dr H d c r n) (e : Kp d r H H') (hs : SqT K H a xs) : SqT K H' a xs := by
  obtain ⟨x, h1⟩ := h.d_lst
  obtain ⟨y, h2⟩ := h.r_lst
  rcases hs with (q | ⟨o, q⟩) | q
  · exact .inl (.inl (e _ _ q (ne_of q h1 (by intro z; cases z)) (ne_of q h2 (by intro z; cases z))))
  · exact .inl (.inr ⟨o, e _ _ q (ne_of q h1 (by intro z; cases z)) (ne_of q h2 (by intro z; cases z))⟩)
  · exact .inr q
/-! ### tuples of ints, tables -/
def IT (K : PySem.W.Frag) (H : Hp) (v : V) (ns : List Int) : Prop := ∃ p, v = .ref p ∧ SqT K H p (ns.map V.int)
def Rows (K : PySem.W.Frag) (H : Hp) (vs : List V) (t : List (List Int)) : Prop := vs.length = t.length ∧ ∀ (i : Nat) v ns, vs[i]? = some v → t[i]? = some ns → IT K H v ns
def TT (K : PySem.W.Frag) (H : Hp) (v : V) (t : List (List Int)) : Prop := ∃ p vs, v = .ref p ∧ SqT K H p vs ∧ Rows K H vs t
theorem IT.same {K : PySem.W.Frag} {H H' : Hp} {v : V} {ns : List Int} (h : IT K H v ns) (e : Sm H H') : IT K H' v ns := by
  obtain ⟨p, h1, h2⟩ := h
  exact ⟨p, h1, e.sqT h2⟩
theorem Rows.same {K : PySem.W.Frag} {H H' : Hp} {vs : List V} {t : List (List Int)} (h : Rows K H vs t) (e : Sm H H') : Rows K H' vs t :=
  ⟨h.1, fun i v ns a b => (h.2 i v ns a b).same e⟩
theorem TT.same {K : PySem.W.Frag} {H H' : Hp} {v : V} {t : List (List Int)} (h : TT K H v t) (e : Sm H H') : TT K H' v t := by
  obtain ⟨p, vs, h1, h2, h3⟩ := h
  exact ⟨p, vs, h1, e.sqT h2, h3.same e⟩
theorem IT.kp {K : PySem.W.Frag} {H H' : Hp} {d c r : Addr} {n : Nat} {v : V} {ns : List Int} (h : IT K H v ns) (g : Dr H d c r n) (e : Kp d r H H') : IT K H' v ns := by
  obtain ⟨p, h1, h2⟩ := h
  exact ⟨p, h1, g.kpT e h2⟩
theorem Rows.kp {K : PySem.W.Frag} {H H' : Hp} {d c r : Addr} {n : Nat} {vs : List V} {t : List (List Int)} (h : Rows K H vs t) (g : Dr H d c r n) (e : Kp d r H H') : Rows K H' vs t :=
  ⟨h.1, fun i v ns a b => (h.2 i v ns a b).kp g e⟩
theorem TT.kp {K : PySem.W.Frag} {H H' : Hp} {d c r : Addr} {n : Nat} {v : V} {t : List (List Int)} (h : TT K H v t) (g : Dr H d c r n) (e : Kp d r H H') : TT K H' v t := by
  obtain ⟨p, vs, h1, h2, h3⟩ := h
  exact ⟨p, vs, h1, g.kpT e h2, h3.kp g e⟩
/-- stores into a list -/
theorem sqT_upd {K : PySem.W.Frag} {H : Hp} {a p : Addr} {xs ys zs : List V} (hp : H p = some (.lst ys)) (hs : SqT K H a xs) : SqT K (L2.upd H p (.lst zs)) a xs := by
  rcases hs with (q | ⟨o, q⟩) | q
  · exact .inl (.inl (by rw [upd_ne (ne_of q hp (by intro z; cases z))]; exact q))
  · exact .inl (.inr ⟨o, by rw [upd_ne (ne_of q hp (by intro z; cases z))]; exact q⟩)
  · exact .inr q
theorem IT.upd {K : PySem.W.Frag} {H : Hp} {p : Addr} {ys zs : List V} {v : V} {ns : List Int} (h : IT K H v ns) (hp : H p = some (.lst ys)) : IT K (L2.upd H p (.lst zs)) v ns := by
  obtain ⟨q, h1, h2⟩ := h
  exact ⟨q, h1, sqT_upd hp h2⟩
theorem Rows.upd {K : PySem.W.Frag} {H : Hp} {p : Addr} {ys zs : List V} {vs : List V} {t : List (List Int)} (h : Rows K H vs t) (hp : H p = some (.lst ys)) : Rows K (L2.upd H p (.lst zs)) vs t :=
  ⟨h.1, fun i v ns a b => (h.2 i v ns a b).upd hp⟩
theorem Rows.nil {K : PySem.W.Frag} {H : Hp} : Rows K H [] [] := ⟨rfl, fun i v ns a _ => by simp at a⟩
theorem Rows.snoc {K : PySem.W.Frag} {H : Hp} {vs : List V} {t : List (List Int)} {v : V} {ns : List Int} (h : Rows K H vs t) (q : IT K H v ns) : Rows K H (vs ++ [v]) (t ++ [ns]) := by
  refine ⟨by rw [List.length_append, List.length_append, h.1]; rfl, fun i u ms a b => ?_⟩
  by_cases hi : i < vs.length
  · rw [List.getElem?_append_left hi] at a
    rw [List.getElem?_append_left (by rw [← h.1]; exact hi)] at b
    exact h.2 i u ms a b
  · rw [List.getElem?_append_right (by omega)] at a
    rw [List.getElem?_append_right (by rw [← h.1]; omega), ← h.1] at b
    cases e : i - vs.length with
    | zero =>
      rw [e] at a b
      cases Option.some.inj a
      cases Option.some.inj b
      exact q
    | succ k => rw [e] at a; simp at a
theorem Rows.get {K : PySem.W.Frag} {H : Hp} {vs : List V} {t : List (List Int)} (h : Rows K H vs t) {i : Nat} (hi : i < t.length) : ∃ v p, vs[i]? = some v ∧ v = .ref p ∧ SqT K H p ((t.getD i []).map V.int) := by
  have h1 : i < vs.length := by rw [h.1]; exact hi
  have a : vs[i]? = some vs[i] := List.getElem?_eq_getElem h1
  have b : t[i]? = some t[i] := List.getElem?_eq_getElem hi
  obtain ⟨p, e, q⟩ := h.2 i _ _ a b
  refine ⟨_, p, a, e, ?_⟩
  rw [List.getD_eq_getElem?_getD, b]
  exact q
/-- a table's levels -/
def LvOk (x : Int) : Prop := 1 ≤ x ∧ x ≤ 1000000000000
def WT (t : List (List Int)) : Prop := ∀ (i : Nat) ns, t[i]? = some ns → ns.length = i ∧ ∀ x ∈ ns, LvOk x
def lev (t : List (List Int)) (i j : Nat) : Int := if i = j then 0 else (t.getD (max i j) []).getD (min i j) 0
theorem lev_comm (t : List (List Int)) (i j : Nat) : lev t i j = lev t j i := by
  unfold lev
  by_cases h : i = j
  · rw [if_pos h, if_pos h.symm]
  · rw [if_neg h, if_neg (fun e => h e.symm), Nat.max_comm, Nat.min_comm]
theorem WT.row {t : List (List Int)} (h : WT t) {i : Nat} (hi : i < t.length) : (t.getD i []).length = i ∧ ∀ x ∈ t.getD i [], LvOk x := by
  have b : t[i]? = some t[i] := List.getElem?_eq_getElem hi
  rw [List.getD_eq_getElem?_getD, b]
  exact h i _ b
theorem WT.lev {t : List (List Int)} (h : WT t) {i j : Nat} (hi : i < t.length) (hj : j < t.length) (hij : i ≠ j) : LvOk (lev t i j) := by
  unfold Ml.lev
  rw [if_neg hij]
  have hm : max i j < t.length := by omega
  obtain ⟨h1, h2⟩ := h.row hm
  have hl : min i j < (t.getD (max i j) []).length := by omega
  rw [List.getD_eq_getElem?_getD, List.getElem?_eq_getElem hl]
  exact h2 _ (List.getElem_mem hl)
theorem WT.nil : WT [] := fun i ns h => by simp at h
theorem WT.snoc {t : List (List Int)} {ns : List Int} (h : WT t) (h1 : ns.length = t.length) (h2 : ∀ x ∈ ns, LvOk x) : WT (t ++ [ns]) := by
  intro i ms q
  by_cases hi : i < t.length
  · rw [List.getElem?_append_left hi] at q
    exact h i ms q
  · rw [List.getElem?_append_right (by omega)] at q
    cases e : i - t.length with
    | zero =>
      rw [e] at q
      cases Option.some.inj q
      exact ⟨by omega, h2⟩
    | succ k => rw [e] at q; simp at q
theorem map_at {ns : List Int} {i : Nat} {x : Int} (h : ns[i]? = some x) : (ns.map V.int)[i]? = some (.int x) := by
  rw [List.getElem?_map, h]
  rfl
theorem getD_at {ns : List Int} {i : Nat} (h : i < ns.length) : ns[i]? = some (ns.getD i 0) := by
  rw [List.getD_eq_getElem?_getD, List.getElem?_eq_getElem h]
  rfl
end Ml
namespace Ml
open PySem PySem.Spec PyProof.Rows L2
theorem ixN_at {n j : Nat} (h : j < n) : ixN n (j : Int) = some j := by
  unfold ixN
  rw [if_pos (by omega), if_pos (by omega)]
  simp
end Ml
namespace Ml
open PySem PySem.Spec PyProof.Rows L2
/-! ### data at any depth -/
mutual
theorem Dp.same {K : PySem.W.Frag} {H H' : Hp} (e : Sm H H') : ∀ (d : PyData) (v : V), Dp K H v d → Dp K H' v d
  | .none, _, h => by cases h; exact .non
  | .bool b, _, h => by cases h; exact .bl b
  | .int i, _, h => by cases h; exact .int i
  | .str x, _, h => by cases h; exact .str x
  | .list ds, _, h => by
    cases h with
    | lst hs ha => exact .lst (e.sqL hs) (Dp.sameAll e ds _ ha)
  | .tuple ds, _, h => by
    cases h with
    | tup hs ha => exact .tup (e.sqT hs) (Dp.sameAll e ds _ ha)
  | .dict _, _, h => by cases h
theorem Dp.sameAll {K : PySem.W.Frag} {H H' : Hp} (e : Sm H H') : ∀ (ds : List PyData) (vs : List V), DpAll K H vs ds → DpAll K H' vs ds
  | [], _, h => by cases h; exact .nil
  | d :: ds, _, h => by
    cases h with
    | cons h1 h2 => exact .cons (Dp.same e d _ h1) (Dp.sameAll e ds _ h2)
end
theorem dp_ints {K : PySem.W.Frag} {H : Hp} : ∀ ns : List Int, DpAll K H (ns.map V.int) (ns.map PyData.int)
  | [] => .nil
  | n :: ns => .cons (.int n) (dp_ints ns)
theorem ty_tup {K : PySem.W.Frag} {H : Hp} {a : Addr} {xs : List V} (h : SqT K H a xs) : TyX K H (.ref a) (.type "tuple") := by
  rcases h with (h | ⟨o, h⟩) | ⟨o, its, n, h1, h2, _⟩
  · exact .base (.tup h)
  · exact .fTuple h
  · exact .kTuple h1 h2
def tyN : PyData → String
  | .none => "NoneType"
  | .bool _ => "bool"
  | .int _ => "int"
  | .str _ => "str"
  | .tuple _ => "tuple"
  | .list _ => "list"
  | .dict _ => "dict"
end Ml
namespace Ml
open PySem PySem.Spec PyProof.Rows L2
/-! ### pairs of items -/
/-- the pairs as tuples in the heap -/
def Prs (K : PySem.W.Frag) (H : Hp) (vs : List V) (ps : List (Nat × Nat)) : Prop := vs.length = ps.length ∧ ∀ (i : Nat) v p, vs[i]? = some v → ps[i]? = some p → ∃ a, v = .ref a ∧ SqT K H a [.int (p.1 : Int), .int (p.2 : Int)]
theorem Prs.nil {K : PySem.W.Frag} {H : Hp} : Prs K H [] [] := ⟨rfl, fun i v p a _ => by simp at a⟩
theorem Prs.same {K : PySem.W.Frag} {H H' : Hp} {vs : List V} {ps : List (Nat × Nat)} (h : Prs K H vs ps) (e : Sm H H') : Prs K H' vs ps :=
  ⟨h.1, fun i v p a b => let ⟨q, h1, h2⟩ := h.2 i v p a b; ⟨q, h1, e.sqT h2⟩⟩
theorem Prs.upd {K : PySem.W.Frag} {H : Hp} {p : Addr} {ys zs : List V} {vs : List V} {ps : List (Nat × Nat)} (h : Prs K H vs ps) (hp : H p = some (.lst ys)) : Prs K (L2.upd H p (.lst zs)) vs ps :=
  ⟨h.1, fun i v q a b => let ⟨r, h1, h2⟩ := h.2 i v q a b; ⟨r, h1, sqT_upd hp h2⟩⟩
theorem Prs.append {K : PySem.W.Frag} {H : Hp} {vs ws : List V} {ps qs : List (Nat × Nat)} (h : Prs K H vs ps) (g : Prs K H ws qs) : Prs K H (vs ++ ws) (ps ++ qs) := by
  refine ⟨by rw [List.length_append, List.length_append, h.1, g.1], fun i u p a b => ?_⟩
  by_cases hi : i < vs.length
  · rw [List.getElem?_append_left hi] at a
    rw [List.getElem?_append_left (by rw [← h.1]; exact hi)] at b
    exact h.2 i u p a b
  · rw [List.getElem?_append_right (by omega)] at a
    rw [List.getElem?_append_right (by rw [← h.1]; omega), ← h.1] at b
    exact g.2 _ u p a b
theorem Prs.one {K : PySem.W.Frag} {H : Hp} {a : Addr} {i j : Nat} (h : SqT K H a [.int (i : Int), .int (j : Int)]) : Prs K H [.ref a] [(i, j)] := by
  refine ⟨rfl, fun k v p e1 e2 => ?_⟩
  cases k with
  | zero =>
    cases Option.some.inj e1
    cases Option.some.inj e2
    exact ⟨a, rfl, h⟩
  | succ k => simp at e1
/-! ### three levels -/
def Ev3 (a b c : Int) : Prop := (a = b ∧ c ≤ a) ∨ (a = c ∧ b ≤ a) ∨ (b = c ∧ a ≤ b)
/-- three items of a table -/
def Ev (t : List (List Int)) (i j k : Nat) : Prop := Ev3 (lev t i j) (lev t i k) (lev t j k)
def Triple (n i j k : Nat) : Prop := i < j ∧ j < k ∧ k < n
def AllEven (t : List (List Int)) : Prop := ∀ i j k, Triple t.length i j k → Ev t i j k
end Ml
namespace Ml
open PySem PySem.Spec PyProof.Rows L2
/-! ### lists of ints compared -/
theorem eqv_ints : ∀ (a b : List Int), PyData.eqvAll (a.map PyData.int) (b.map PyData.int) = decide (a = b)
  | [], [] => by simp [PyData.eqvAll]
  | [], b :: m => by simp [PyData.eqvAll]
  | a :: l, [] => by simp [PyData.eqvAll]
  | a :: l, b :: m => by
    have ih := eqv_ints l m
    simp only [List.map_cons, PyData.eqvAll, PyData.eqv, ih]
    by_cases h : a = b
    · subst h
      by_cases h2 : l = m
      · subst h2; simp
      · simp [h2]
    · simp [h]
theorem eqv_tup (a b : List Int) : PyData.eqv (.tuple (a.map PyData.int)) (.tuple (b.map PyData.int)) = decide (a = b) := by
  simp only [PyData.eqv, eqv_ints]
theorem lay_ints : ∀ ns : List Int, PyData.canLayAll0 (ns.map PyData.int) = true
  | [] => by simp [PyData.canLayAll0]
  | n :: ns => by simp [PyData.canLayAll0, PyData.canLay0, lay_ints ns]
theorem deep_ints : ∀ ns : List Int, PyData.depthAll (ns.map PyData.int) = 0
  | [] => by simp [PyData.depthAll]
  | n :: ns => by simp [PyData.depthAll, PyData.depth, deep_ints ns]
theorem shaped_list (ns : List Int) : SeqAt.shaped (.list (ns.map PyData.int)) = true := by
  show ((PyData.list (ns.map PyData.int)).canLay0 && decide ((PyData.list (ns.map PyData.int)).depth ≤ 64)) = true
  simp [PyData.canLay0, PyData.depth, lay_ints ns, deep_ints ns]
/-! ### what being nested means -/
def Ultra (t : List (List Int)) : Prop := ∀ i j k, i < t.length → j < t.length → k < t.length → lev t i k ≤ max (lev t i j) (lev t j k)
theorem lev_self (t : List (List Int)) (i : Nat) : lev t i i = 0 := by
  unfold lev
  rw [if_pos rfl]
theorem lev_nn {t : List (List Int)} (h : WT t) {i j : Nat} (hi : i < t.length) (hj : j < t.length) : 0 ≤ lev t i j := by
  by_cases e : i = j
  · rw [e, lev_self]
    exact Int.le_refl 0
  · have := (h.lev hi hj e).1
    omega
theorem Ev.sym {t : List (List Int)} {i j k : Nat} (h : Ev t i j k) : lev t i k ≤ max (lev t i j) (lev t j k) ∧ lev t i j ≤ max (lev t i k) (lev t j k) ∧ lev t j k ≤ max (lev t i j) (lev t i k) := by
  unfold Ev Ev3 at h
  omega
theorem ultra_of_even {t : List (List Int)} (hW : WT t) (h : AllEven t) : Ultra t := by
  intro i j k hi hj hk
  have n1 := lev_nn hW hi hj
  have n2 := lev_nn hW hj hk
  by_cases e1 : i = j
  · subst e1
    rw [lev_self]
    omega
  by_cases e2 : j = k
  · subst e2
    rw [lev_self]
    omega
  by_cases e3 : i = k
  · subst e3
    rw [lev_self]
    omega
  have c1 := lev_comm t j i
  have c2 := lev_comm t k j
  have c3 := lev_comm t k i
  have key : ∀ a b c, Triple t.length a b c → _ := fun a b c hT => (h a b c hT).sym
  unfold Triple at key
  rcases Nat.lt_or_gt_of_ne e1 with a | a <;> rcases Nat.lt_or_gt_of_ne e2 with b | b <;> rcases Nat.lt_or_gt_of_ne e3 with c | c
  · have := key i j k ⟨a, b, hk⟩; omega
  · omega
  · have := key i k j ⟨c, b, hj⟩; omega
  · have := key k i j ⟨c, a, hj⟩; omega
  · have := key j i k ⟨a, c, hk⟩; omega
  · have := key j k i ⟨b, c, hi⟩; omega
  · omega
  · have := key k j i ⟨b, a, hi⟩; omega
theorem even_of_ultra {t : List (List Int)} (h : Ultra t) : AllEven t := by
  intro i j k ⟨h1, h2, h3⟩
  have a := h i j k (by omega) (by omega) h3
  have b := h i k j (by omega) h3 (by omega)
  have c := h j i k (by omega) (by omega) h3
  rw [lev_comm t k j] at b
  rw [lev_comm t j i] at c
  unfold Ev Ev3
  omega
end Ml
namespace Ml
open PySem PySem.Spec PyProof.Rows L2
/-! ### lowest ways -/
def fw (f : Nat → Nat → Int) : Nat → Nat → Nat → Int
  | 0, i, j => f i j
  | k + 1, i, j => min (fw f k i j) (max (fw f k i k) (fw f k k j))
theorem fw_le {f : Nat → Nat → Int} : ∀ (k i j : Nat), fw f k i j ≤ f i j
  | 0, i, j => Int.le_refl _
  | k + 1, i, j => by
    have := fw_le (f := f) k i j
    show min (fw f k i j) (max (fw f k i k) (fw f k k j)) ≤ f i j
    omega
theorem fw_nn {f : Nat → Nat → Int} {n : Nat} (h : ∀ i j, i < n → j < n → 0 ≤ f i j) : ∀ (k i j : Nat), k ≤ n → i < n → j < n → 0 ≤ fw f k i j
  | 0, i, j, _, hi, hj => h i j hi hj
  | k + 1, i, j, hk, hi, hj => by
    have a := fw_nn h k i j (by omega) hi hj
    have b := fw_nn h k i k (by omega) hi (by omega)
    have c := fw_nn h k k j (by omega) (by omega) hj
    show 0 ≤ min (fw f k i j) (max (fw f k i k) (fw f k k j))
    omega
theorem fw_diag {f : Nat → Nat → Int} {n : Nat} (h : ∀ i j, i < n → j < n → 0 ≤ f i j) (h0 : ∀ i, f i i = 0) (k i : Nat) (hk : k ≤ n) (hi : i < n) : fw f k i i = 0 := by
  have a := fw_nn h k i i hk hi hi
  have b := fw_le (f := f) k i i
  rw [h0 i] at b
  omega
/-- the middle's own rows and columns stay -/
theorem fw_row {f : Nat → Nat → Int} {n : Nat} (h : ∀ i j, i < n → j < n → 0 ≤ f i j) (h0 : ∀ i, f i i = 0) (k i : Nat) (hk : k < n) (hi : i < n) : fw f (k + 1) i k = fw f k i k ∧ fw f (k + 1) k i = fw f k k i := by
  have a := fw_nn h k i k (by omega) hi hk
  have b := fw_nn h k k i (by omega) hk hi
  have c := fw_diag h h0 k k (by omega) hk
  constructor
  · show min (fw f k i k) (max (fw f k i k) (fw f k k k)) = _
    omega
  · show min (fw f k k i) (max (fw f k k k) (fw f k k i)) = _
    omega
theorem fw_tri {f : Nat → Nat → Int} {n : Nat} (h : ∀ i j, i < n → j < n → 0 ≤ f i j) (h0 : ∀ i, f i i = 0) : ∀ (k : Nat), k ≤ n → ∀ i j m, i < n → j < n → m < k → fw f k i j ≤ max (fw f k i m) (fw f k m j)
  | 0, _, i, j, m, _, _, hm => absurd hm (Nat.not_lt_zero _)
  | k + 1, hk, i, j, m, hi, hj, hm => by
    have ih := fw_tri h h0 k (by omega)
    by_cases e : m = k
    · subst e
      have a := fw_row h h0 m i (by omega) hi
      have b := fw_row h h0 m j (by omega) hj
      rw [a.1, b.2]
      show min (fw f m i j) (max (fw f m i m) (fw f m m j)) ≤ _
      omega
    · have hm' : m < k := by omega
      have a := ih i j m hi hj hm'
      have b := ih k j m (by omega) hj hm'
      have c := ih i k m hi (by omega) hm'
      show min (fw f k i j) (max (fw f k i k) (fw f k k j)) ≤ max (min (fw f k i m) (max (fw f k i k) (fw f k k m))) (min (fw f k m j) (max (fw f k m k) (fw f k k j)))
      omega
/-- walks with steps at most h -/
inductive Wk (f : Nat → Nat → Int) (n : Nat) (h : Int) (i : Nat) : Nat → Prop
  | refl : Wk f n h i i
  | step {j k : Nat} : Wk f n h i j → j < n → k < n → f j k ≤ h → Wk f n h i k
theorem Wk.mono {f : Nat → Nat → Int} {n : Nat} {h h' : Int} {i j : Nat} (w : Wk f n h i j) (e : h ≤ h') : Wk f n h' i j := by
  induction w with
  | refl => exact .refl
  | step _ a b c ih => exact ih.step a b (Int.le_trans c e)
theorem Wk.trans {f : Nat → Nat → Int} {n : Nat} {h : Int} {i j k : Nat} (w : Wk f n h i j) (v : Wk f n h j k) : Wk f n h i k := by
  induction v with
  | refl => exact w
  | step _ a b c ih => exact ih.step a b c
theorem fw_walk {f : Nat → Nat → Int} {n : Nat} : ∀ (k i j : Nat), k ≤ n → i < n → j < n → Wk f n (fw f k i j) i j
  | 0, i, j, _, hi, hj => Wk.refl.step hi hj (Int.le_refl _)
  | k + 1, i, j, hk, hi, hj => by
    have a := fw_walk (f := f) (n := n) k i j (by omega) hi hj
    have b := fw_walk (f := f) (n := n) k i k (by omega) hi (by omega)
    have c := fw_walk (f := f) (n := n) k k j (by omega) (by omega) hj
    show Wk f n (min (fw f k i j) (max (fw f k i k) (fw f k k j))) i j
    rcases Int.le_total (fw f k i j) (max (fw f k i k) (fw f k k j)) with z | z
    · rw [Int.min_eq_left z]
      exact a
    · rw [Int.min_eq_right z]
      exact (b.mono (by omega)).trans (c.mono (by omega))
/-! ### joining levels of a table -/
def jn (t : List (List Int)) (i j : Nat) : Int := fw (lev t) t.length i j
section
variable {t : List (List Int)} (hW : WT t)
include hW
theorem lev_nn' : ∀ i j, i < t.length → j < t.length → 0 ≤ lev t i j := fun i j hi hj => lev_nn hW hi hj
theorem jn_le (i j : Nat) : jn t i j ≤ lev t i j := fw_le _ _ _
theorem jn_diag {i : Nat} (hi : i < t.length) : jn t i i = 0 := fw_diag (lev_nn' hW) (lev_self t) _ _ (Nat.le_refl _) hi
theorem jn_tri {i j k : Nat} (hi : i < t.length) (hj : j < t.length) (hk : k < t.length) : jn t i j ≤ max (jn t i k) (jn t k j) := fw_tri (lev_nn' hW) (lev_self t) _ (Nat.le_refl _) i j k hi hj hk
theorem jn_walk {i j : Nat} (hi : i < t.length) (hj : j < t.length) : Wk (lev t) t.length (jn t i j) i j := fw_walk _ i j (Nat.le_refl _) hi hj
theorem walk_jn {i j : Nat} {h : Int} (hi : i < t.length) (h0 : 0 ≤ h) (w : Wk (lev t) t.length h i j) : jn t i j ≤ h := by
  induction w with
  | refl => rw [jn_diag hW hi]; exact h0
  | @step j k _ a b c ih =>
    have x := jn_tri hW hi b a
    have y := jn_le hW j k
    omega
end
/-! ### simple paths -/
def Steps (f : Nat → Nat → Int) (h : Int) (p : List Nat) : Prop := ∀ (m a b : Nat), p[m]? = some a → p[m + 1]? = some b → f a b ≤ h
end Ml
namespace Ml
open PySem PySem.Spec PyProof.Rows L2
/-! ### comprehensions over two at once -/
/-! ### lists of lists of ints, each row its own object -/
def Rws (H : Hp) (ps : List Addr) (g : List (List Int)) : Prop := ps.length = g.length ∧ ps.Nodup ∧ ∀ (i : Nat) p ns, ps[i]? = some p → g[i]? = some ns → H p = some (.lst (ns.map V.int))
theorem Rws.same {H H' : Hp} {ps : List Addr} {g : List (List Int)} (h : Rws H ps g) (e : Sm H H') : Rws H' ps g := ⟨h.1, h.2.1, fun i p ns a b => e _ _ (h.2.2 i p ns a b)⟩
theorem Rws.nil {H : Hp} : Rws H [] [] := ⟨rfl, List.nodup_nil, fun i v ns a _ => by simp at a⟩
theorem Rws.at {H : Hp} {ps : List Addr} {g : List (List Int)} (h : Rws H ps g) {p : Addr} (hp : p ∈ ps) : ∃ ns : List Int, H p = some (.lst (ns.map V.int)) := by
  obtain ⟨i, hi, e⟩ := List.getElem_of_mem hp
  have hg : i < g.length := by rw [← h.1]; exact hi
  exact ⟨g[i], h.2.2 i p g[i] (by rw [List.getElem?_eq_getElem hi, e]) (List.getElem?_eq_getElem hg)⟩
theorem Rws.upd {H : Hp} {ps : List Addr} {g : List (List Int)} {o : Addr} {x : HO} (h : Rws H ps g) (ho : o ∉ ps) : Rws (L2.upd H o x) ps g :=
  ⟨h.1, h.2.1, fun i p ns a b => by
    have ne : p ≠ o := fun e => ho (by rw [← e]; exact List.mem_of_getElem? a)
    rw [upd_ne ne]
    exact h.2.2 i p ns a b⟩
theorem Rws.snoc {H : Hp} {ps : List Addr} {g : List (List Int)} {q : Addr} {ns : List Int} (h : Rws H ps g) (hn : q ∉ ps) (hq : H q = some (.lst (ns.map V.int))) : Rws H (ps ++ [q]) (g ++ [ns]) := by
  refine ⟨by rw [List.length_append, List.length_append, h.1]; rfl, ?_, fun i p ms a b => ?_⟩
  · rw [List.nodup_append]
    refine ⟨h.2.1, by simp, fun a ha b hb => ?_⟩
    rw [List.mem_singleton.mp hb]
    exact fun e => hn (e ▸ ha)
  · by_cases hi : i < ps.length
    · rw [List.getElem?_append_left hi] at a
      rw [List.getElem?_append_left (by rw [← h.1]; exact hi)] at b
      exact h.2.2 i p ms a b
    · rw [List.getElem?_append_right (by omega)] at a
      rw [List.getElem?_append_right (by rw [← h.1]; omega), ← h.1] at b
      cases e : i - ps.length with
      | zero =>
        rw [e] at a b
        cases Option.some.inj a
        cases Option.some.inj b
        exact hq
      | succ k => rw [e] at a; simp at a
theorem Rws.get {H : Hp} {ps : List Addr} {g : List (List Int)} (h : Rws H ps g) {i : Nat} (hi : i < g.length) : ∃ p, ps[i]? = some p ∧ H p = some (.lst ((g.getD i []).map V.int)) := by
  have h1 : i < ps.length := by rw [h.1]; exact hi
  refine ⟨ps[i], List.getElem?_eq_getElem h1, ?_⟩
  rw [List.getD_eq_getElem?_getD, List.getElem?_eq_getElem hi]
  exact h.2.2 i _ _ (List.getElem?_eq_getElem h1) (List.getElem?_eq_getElem hi)
/-- a row stored into -/
theorem Rws.set {H : Hp} {ps : List Addr} {g : List (List Int)} {i : Nat} {p : Addr} {ns : List Int} (h : Rws H ps g) (hp : ps[i]? = some p) : Rws (L2.upd H p (.lst (ns.map V.int))) ps (g.set i ns) := by
  refine ⟨by rw [List.length_set]; exact h.1, h.2.1, fun j q ms a b => ?_⟩
  by_cases e : j = i
  · subst e
    rw [hp] at a
    cases Option.some.inj a
    have hl : j < g.length := by rw [← h.1]; exact (List.getElem?_eq_some_iff.mp hp).1
    rw [List.getElem?_set_self hl] at b
    cases Option.some.inj b
    exact upd_same
  · have ne : q ≠ p := fun z => by
      subst z
      have l1 := (List.getElem?_eq_some_iff.mp a)
      have l2 := (List.getElem?_eq_some_iff.mp hp)
      obtain ⟨l1, e1⟩ := l1
      obtain ⟨l2, e2⟩ := l2
      have nd := List.pairwise_iff_getElem.mp h.2.1
      rcases Nat.lt_or_gt_of_ne e with z | z
      · exact nd j i l1 l2 z (e1.trans e2.symm)
      · exact nd i j l2 l1 z (e2.trans e1.symm)
    rw [upd_ne ne]
    rw [List.getElem?_set_ne (fun z => e z.symm)] at b
    exact h.2.2 j q ms a b
/-! ### squares -/
theorem range_map_succ (f : Nat → Int) (n : Nat) : (List.range (n + 1)).map f = (List.range n).map f ++ [f n] := by
  rw [List.range_succ, List.map_append]
  rfl
end Ml
namespace Ml
open PySem PySem.Spec PyProof.Rows L2
/-! ### triangles -/
def tri (F : Nat → Nat → Int) (n : Nat) : List (List Int) := (List.range n).map fun i => (List.range i).map (F i)
/-- the table of the joining levels -/
def jtab (t : List (List Int)) : List (List Int) := tri (jn t) t.length
end Ml
namespace Ml
open PySem PySem.Spec PyProof.Rows L2
/-! ### repr of data -/
/-- a row, a table as data -/
def rowD (ns : List Int) : PyData := .tuple (ns.map PyData.int)
def tabD (t : List (List Int)) : PyData := .tuple (t.map rowD)
theorem IT.dp {K : PySem.W.Frag} {H : Hp} {v : V} {ns : List Int} (h : IT K H v ns) : Dp K H v (rowD ns) := by
  obtain ⟨p, rfl, hs⟩ := h
  exact .tup hs (dp_ints ns)
theorem rows_dp {K : PySem.W.Frag} {H : Hp} : ∀ {vs : List V} {t : List (List Int)}, Rows K H vs t → DpAll K H vs (t.map rowD)
  | [], [], _ => .nil
  | [], _ :: _, h => by have := h.1; simp at this
  | _ :: _, [], h => by have := h.1; simp at this
  | v :: vs, ns :: t, h => by
    refine .cons (h.2 0 v ns rfl rfl).dp (rows_dp (vs := vs) (t := t) ⟨by have := h.1; simpa using this, fun i u ms a b => h.2 (i + 1) u ms (by simpa using a) (by simpa using b)⟩)
theorem TT.dp {K : PySem.W.Frag} {H : Hp} {v : V} {t : List (List Int)} (h : TT K H v t) : Dp K H v (tabD t) := by
  obtain ⟨p, vs, rfl, hs, hR⟩ := h
  exact .tup hs (rows_dp hR)
theorem shown_int14 {i : Int} (h : i.natAbs < 10 ^ 13) : (PyData.shown (.int i)).length ≤ 14 := by
  have e := int_text_length_le10 (k := 13) (by decide) h
  show (Str.ofString (toString i)).length ≤ 14
  rw [PySem.ofString_length]
  exact e
theorem dep_ints : ∀ ns : List Int, PyData.depthAll (ns.map PyData.int) = 0
  | [] => by simp [PyData.depthAll]
  | n :: ns => by simp [PyData.depthAll, PyData.depth, dep_ints ns]
theorem dep_rows : ∀ t : List (List Int), PyData.depthAll (t.map rowD) ≤ 1
  | [] => by simp [PyData.depthAll]
  | n :: ns => by
    have h1 := dep_ints n
    have h2 := dep_rows ns
    simp only [List.map_cons, PyData.depthAll, rowD, PyData.depth, h1]
    omega
/-! ### a def that is called where nothing is being shown -/
structure GOk (P : Program) (w : World) (K : PySem.W.Frag) (mg : Str → Option Value) (base : Heap) (k : Nat) (f : Addr) (fd : FuncData) (ps : List Str) (sp : Sp) : Prop where
  len : ∀ vs H Q E, sp vs H Q E → vs.length = ps.length
  go : ∀ (A : Around) (outer : List Env) (s : Shared) (H : Hp) (args : Args) (us : List Value) (vs : List V) (Q : VK) (E : XK), A.guards = some [] → Room k A → Env0 P w K mg base A outer s H → BindsTo s fd args (ps.zip us) → Vals vs us → sp vs H Q E →
    codeAny (model P w) A (.call (.ref f) args) (CR CX0 outer P w H s Q E) s
theorem fun_G {P : Program} {w : World} {K : PySem.W.Frag} {mg : Str → Option Value} {base : Heap} {x qual : Str} {st : Stmt} {f : Addr} {fd : FuncData} {N ps : List Str} {k : Nat} {sp : Sp} (F : Fun K x qual st f fd) (S : FnScope N ps (defScope st))
    (len : ∀ vs H Q E, sp vs H Q E → vs.length = ps.length)
    (walk : ∀ (cdv : Value) (A : Around) (outer : List Env) (s : Shared) (H : Hp) (vs : List V) (Q : VK) (E : XK), (A.deeper (envOfC qual (defScope st) s.heap.objs.size f cdv)).guards = some [] → Room k (A.deeper (envOfC qual (defScope st) s.heap.objs.size f cdv)) → sp vs H Q E →
      ∃ t, PSs (cxOf CX0 P w K mg base N qual (defScope st) f cdv A outer s H E).nox (defBody st) t ∧ t { nx := fun _ H' => Q .non H', rt := Q } (start N vs) H) : GOk P w K mg base (k + 1) f fd ps sp := by
  obtain ⟨oc, od, kV, doc, pm, an, cdv, ct, osl, rfl, lk, code⟩ := F.ex
  refine ⟨len, fun A outer s H args us vs Q E guards room e0 binds vals hsp => ?_⟩
  have keep : ∀ b o, base.get? b = some o → s.heap.get? b = some o := fun b o e => (e0.bs b o e).1
  have inK : K.In s.heap := e0.mod.kin.keeps keep
  have nolim : s.heap.NoLimit := e0.mod.nolimit.keeps keep
  refine codeAny_call_function room.depth (inK _ _ lk) rfl S.co S.gen rfl (PySem.W.codeRec_of inK code) (binds _ _ _ _ ?_)
  refine wpAny_newFunctionEnv_cells S.kind (fun y hy => ?_) fun env henv s1 inc => ?_
  · rcases S.par y.1 (List.of_mem_zip (a := y.1) (b := y.2) hy).1 with z | z
    · exact .inl z
    · exact .inr ⟨z, PySem.W.cellsFrom_some _ _ _ (.inl z)⟩
  subst henv
  refine ⟨nolim.keeps inc.toInCall.keep, codeAny_func ?_⟩
  obtain ⟨t, ht, hq⟩ := walk cdv A outer s H vs Q E guards (room.deeper _) hsp
  have I := inv_start (CX := CX0) (E := E) S room.hd e0 (len _ _ _ _ hsp) vals inc
  refine wpAny_mono (ht.nox.run [] s1 (start N vs) H _ I hq) (fun fl z hz => ?_) fun _ _ hz => hz
  cases fl with
  | ret u =>
    obtain ⟨v, σ', H', J, rv, qv⟩ := hz
    exact ⟨v, H', J.os, J.bare, J.base, J.hok, rv, qv⟩
  | next =>
    obtain ⟨σ', H', J, qv⟩ := hz
    exact ⟨.non, H', J.os, J.bare, J.base, J.hok, (show RelV V.non Value.none from rfl), qv⟩
  | brk =>
    obtain ⟨_, _, _, qv⟩ := hz
    exact qv.elim
  | cont =>
    obtain ⟨_, _, _, qv⟩ := hz
    exact qv.elim
/-! ### the law's own call -/
theorem law_G {P : Program} {w : World} {K : PySem.W.Frag} {mg mb : Str → Option Value} {k : Nat} {fa a : Addr} {fd : FuncData} {x : Str} {sp : Sp} {z : Shared} {vs : List Value} {ns : List Int}
    (inK : K.In z.heap) (names : z.heap.Ns mainGlobals mg) (bltn : z.heap.Ns builtinsNs mb) (boot : ∀ y : Str, y ≠ "__name__" → mb y = bootBuiltins y) (nolim : z.heap.NoLimit) (gens : z.gens = #[])
    (at_a : z.heap.get? a = some { cls := .type "list", data := .seq vs.toArray }) (itsI : IntsAre vs ns) (few : ns.length ≤ sizeLine) (room : Room k callerA)
    (F : ∀ base : Heap, K.In base → base.Ns mainGlobals mg → GOk P w K mg base k fa fd [x] sp) (binds : ∀ (s : Shared) (u : Value), BindsTo s fd ⟨[u], []⟩ [(x, u)])
    (say : ∀ H : Hp, SqL K H a (ns.map V.int) → sp [.ref a] H (fun v _ => v = .bl true) fun _ _ _ => False) :
    codeAny (model P w) callerA (.call (.ref fa) ⟨[.ref a], []⟩) (fun r s' => r = .ok (.ret (.bool true)) ∧ OldK z.heap s'.heap ∧ s'.os = z.os ∧ AllBare s'.gens) z := by
  have vals := vals_ints itsI
  have lens := itsI.length
  -- a start from any abstract heap that tracks the script at most
  have start : ∀ H : Hp, Only H → SqL K H a (ns.map V.int) → HOk P w H z.heap → (∀ b, H b ≠ none → b = a ∧ K.lookup b = none) →
      codeAny (model P w) callerA (.call (.ref fa) ⟨[.ref a], []⟩) (fun r s' => r = .ok (.ret (.bool true)) ∧ OldK z.heap s'.heap ∧ s'.os = z.os ∧ AllBare s'.gens) z := by
    intro H only sq hok alone
    have hid : ∀ {b : Addr} {o : Obj}, z.heap.get? b = some o → H b = none → (hidT z.heap H).get? b = some o := fun e n => hidT_get e n
    have nsHid : ∀ {b : Addr} {m : Str → Option Value}, z.heap.Ns b m → (hidT z.heap H).Ns b m := by
      rintro b m ⟨o, es, ep, e, d, rest⟩
      refine ⟨o, es, ep, hid e ?_, d, rest⟩
      refine Classical.byContradiction fun n => ?_
      obtain ⟨rfl, _⟩ := alone b n
      rw [at_a] at e
      cases e
      cases d
    have kHid : K.In (hidT z.heap H) := fun b o e => hid (inK b o e) (Classical.byContradiction fun n => by
      have := (alone b n).2
      rw [this] at e
      cases e)
    have md : Mod K mg (hidT z.heap H) := ⟨kHid, nsHid names, ⟨mb, nsHid bltn, boot⟩, by obtain ⟨mc, h1, h2⟩ := nolim; exact ⟨mc, nsHid h1, h2⟩⟩
    have env : Env0 P w K mg (hidT z.heap H) callerA [] z H := ⟨rfl, md, fun b o e => of_hidT e, Nat.le_of_eq (hidT_size _ _), trivial, fun b hb => absurd (show b ∈ ([] : List Addr) from hb) List.not_mem_nil, hok, .of_eq gens⟩
    refine codeAny_mono ((F _ kHid (nsHid names)).go callerA [] z H ⟨[.ref a], []⟩ [.ref a] [.ref a] _ _ rfl room env (binds z (.ref a)) (.cons rfl .nil) (say H sq)) fun r s' hr => ?_
    match r, hr with
    | .ok (.ret u), hr =>
      obtain ⟨v, H', os, bare, un, hok', rel, rfl⟩ := hr
      obtain rfl : u = Value.bool true := rel
      refine ⟨rfl, OldK.of_keep fun b o e => ?_, os, bare⟩
      cases hb : H b with
      | none => exact un.keep b o e hb (fun m => absurd (show b ∈ ([] : List Addr) from m) List.not_mem_nil) (by simp)
      | some ho =>
        rcases only b with n | ⟨ob, xs, n⟩
        · rw [hb] at n
          cases n
        · have l1 := (hok b _ n).1
          have l2 := (hok' b _ (un.frzs b ob _ n)).1
          rw [e] at l1
          cases l1
          exact l2
    | .ok .next, hr => exact False.elim hr
    | .ok .brk, hr => exact False.elim hr
    | .ok .cont, hr => exact False.elim hr
    | .error e, hr => exact False.elim hr
  cases look : K.lookup a with
  | some o =>
    have e := inK a o look
    rw [at_a] at e
    cases e
    refine start (fun _ => none) (fun _ => .inl rfl) (.inr ⟨_, vs.toArray, _, look, rfl, rfl, rfl, ?_, by simpa using vals⟩) (fun b u q => by cases q) fun b q => absurd rfl q
    rw [List.size_toArray, lens]
    exact few
  | none =>
    refine start (fun b => if b = a then some (.frz { cls := .type "list", data := .seq vs.toArray } (.lst (ns.map V.int))) else none) (fun b => ?_) (.inl (.inr ⟨_, if_pos rfl⟩)) (fun b u q => ?_) fun b q => ?_
    · by_cases e : b = a
      · exact .inr ⟨_, _, if_pos e⟩
      · exact .inl (if_neg e)
    · by_cases e : b = a
      · subst e
        have q' := (if_pos rfl).symm.trans q
        cases q'
        exact ⟨at_a, by rw [List.length_map]; exact few, vs, _, vals, at_a⟩
      · have q' := (if_neg e).symm.trans q
        cases q'
    · by_cases e : b = a
      · exact ⟨e, by rw [e]; exact look⟩
      · exact absurd (if_neg e) q
end Ml
namespace Ml
open PySem PySem.Spec PyProof.Rows L2
/-! ### all paths -/
theorem nodup_len : ∀ (n : Nat) (s : List Nat), s.Nodup → (∀ x ∈ s, x < n) → s.length ≤ n
  | 0, s, _, h => by
    cases s with
    | nil => exact Nat.le_refl _
    | cons a b => exact absurd (h a List.mem_cons_self) (Nat.not_lt_zero _)
  | n + 1, s, nd, h => by
    by_cases hm : n ∈ s
    · have ih := nodup_len n (s.erase n) (nd.erase n) fun x hx => by
        have h1 := nd.mem_erase_iff.mp hx
        have := h x h1.2
        have := h1.1
        omega
      have := List.length_erase_of_mem hm
      omega
    · have ih := nodup_len n s nd fun x hx => by
        have := h x hx
        have : x ≠ n := fun e => hm (e ▸ hx)
        omega
      omega
/-! ### heights -/
/-! ### rows put together -/
theorem Rows.append {K : PySem.W.Frag} {H : Hp} {vs us : List V} {t t' : List (List Int)} (h : Rows K H vs t) (h' : Rows K H us t') : Rows K H (vs ++ us) (t ++ t') := by
  refine ⟨by rw [List.length_append, List.length_append, h.1, h'.1], fun i u ms a b => ?_⟩
  by_cases hi : i < vs.length
  · rw [List.getElem?_append_left hi] at a
    rw [List.getElem?_append_left (by rw [← h.1]; exact hi)] at b
    exact h.2 i u ms a b
  · rw [List.getElem?_append_right (by omega)] at a
    rw [List.getElem?_append_right (by rw [← h.1]; omega), ← h.1] at b
    exact h'.2 _ u ms a b
/-- paths as rows -/
abbrev iL (p : List Nat) : List Int := p.map fun i : Nat => (i : Int)
/-- lists of tuples compared with the empty one -/
theorem eqv_nil (ds : List PyData) : PyData.eqv (.list ds) (.list []) = ds.isEmpty := by
  cases ds <;> simp [PyData.eqv, PyData.eqvAll]
theorem lay_rows : ∀ t : List (List Int), PyData.canLayAll0 (t.map rowD) = true
  | [] => by simp [PyData.canLayAll0]
  | n :: ns => by simp [PyData.canLayAll0, PyData.canLay0, rowD, lay_ints n, lay_rows ns]
theorem split_last {α : Type} (l : List α) (h : l ≠ []) : ∃ r x, l = r ++ [x] := ⟨l.dropLast, l.getLast h, (List.dropLast_concat_getLast h).symm⟩
theorem any_nI (k : Nat) : ∀ s : List Nat, inV (.int (k : Int)) (s.map fun i : Nat => V.int (i : Int)) = decide (k ∈ s)
  | [] => by simp [inV]
  | a :: s => by
    have ih := any_nI k s
    unfold inV at ih ⊢
    rw [List.map_cons, List.any_cons, ih]
    show (((a : Int) == (k : Int)) || decide (k ∈ s)) = _
    by_cases h : a = k
    · subst h; simp
    · have e : ((a : Int) == (k : Int)) = false := by rw [beq_eq_false_iff_ne]; omega
      rw [e]
      have h' : ¬ k = a := fun z => h z.symm
      simp [h']
end Ml
namespace Ml
open PySem PySem.Spec PyProof.Rows L2
/-! ### shortest paths, layer by layer -/
inductive Lx : List Nat → List Nat → Prop
  | lt {a b : Nat} {p q : List Nat} : a < b → Lx (a :: p) (b :: q)
  | eq {a : Nat} {p q : List Nat} : Lx p q → Lx (a :: p) (a :: q)
theorem Lx.app {p q : List Nat} (h : Lx p q) (r s : List Nat) : Lx (p ++ r) (q ++ s) := by
  induction h with
  | lt h => exact .lt h
  | eq _ ih => exact .eq ih
theorem Lx.snoc {x y : Nat} (h : x < y) : ∀ p : List Nat, Lx (p ++ [x]) (p ++ [y])
  | [] => .lt h
  | _ :: p => .eq (Lx.snoc h p)
theorem Lx.trans {p q r : List Nat} (h : Lx p q) (g : Lx q r) : Lx p r := by
  induction h generalizing r with
  | lt h =>
    cases g with
    | lt g => exact .lt (Nat.lt_trans h g)
    | eq g => exact .lt h
  | eq _ ih =>
    cases g with
    | lt g => exact .lt g
    | eq g => exact .eq (ih g)
def lst (p : List Nat) : Nat := p.getLastD 0
theorem lst_snoc (p : List Nat) (x : Nat) : lst (p ++ [x]) = x := by simp [lst, List.getLastD_eq_getLast?]
theorem lst_some {p : List Nat} (h : p ≠ []) : p.getLast? = some (lst p) := by
  rw [List.getLast?_eq_some_getLast h]
  simp [lst, List.getLastD_eq_getLast?, List.getLast?_eq_some_getLast h]
section
variable {n : Nat} {f : Nat → Nat → Int} {h : Int} {i : Nat}
def frsh (n : Nat) (f : Nat → Nat → Int) (h : Int) (p : List Nat) (seen : List Nat) : List Nat := (List.range n).filter fun x => decide (f (lst p) x ≤ h) && decide (x ∉ seen)
theorem mem_frsh {p seen : List Nat} {x : Nat} : x ∈ frsh n f h p seen ↔ x < n ∧ f (lst p) x ≤ h ∧ x ∉ seen := by
  unfold frsh
  rw [List.mem_filter, List.mem_range, Bool.and_eq_true, decide_eq_true_iff, decide_eq_true_iff]
theorem frsh_nd (p seen : List Nat) : (frsh n f h p seen).Nodup := List.Pairwise.filter _ List.nodup_range
theorem frsh_asc (p seen : List Nat) : (frsh n f h p seen).Pairwise (· < ·) := List.Pairwise.filter _ List.pairwise_lt_range
def layer (n : Nat) (f : Nat → Nat → Int) (h : Int) : List (List Nat) → List Nat → List (List Nat)
  | [], _ => []
  | p :: ps, seen => ((frsh n f h p seen).map fun x => p ++ [x]) ++ layer n f h ps (seen ++ frsh n f h p seen)
theorem lst_kids (p : List Nat) (l : List Nat) : (l.map fun x => p ++ [x]).map lst = l := by
  rw [List.map_map]
  conv => rhs; rw [← List.map_id l]
  exact List.map_congr_left fun x _ => lst_snoc p x
theorem layer_mem : ∀ (L : List (List Nat)) (seen : List Nat) (c : List Nat), c ∈ layer n f h L seen → ∃ L1 p L2 x, L = L1 ++ p :: L2 ∧ c = p ++ [x] ∧ x < n ∧ f (lst p) x ≤ h ∧ x ∉ seen ∧ ∀ q ∈ L1, ¬ f (lst q) x ≤ h
  | [], _, c, hc => by simp [layer] at hc
  | p :: ps, seen, c, hc => by
    rcases List.mem_append.mp (show c ∈ ((frsh n f h p seen).map fun x => p ++ [x]) ++ layer n f h ps (seen ++ frsh n f h p seen) from hc) with z | z
    · obtain ⟨x, hx, rfl⟩ := List.mem_map.mp z
      obtain ⟨h1, h2, h3⟩ := mem_frsh.mp hx
      exact ⟨[], p, ps, x, rfl, rfl, h1, h2, h3, fun q hq => by simp at hq⟩
    · obtain ⟨L1, q, L2, x, e, rfl, h1, h2, h3, h4⟩ := layer_mem ps _ c z
      rw [List.mem_append, not_or] at h3
      refine ⟨p :: L1, q, L2, x, by rw [e]; rfl, rfl, h1, h2, h3.1, fun r hr => ?_⟩
      rcases List.mem_cons.mp hr with y | y
      · subst y
        exact fun g => h3.2 (mem_frsh.mpr ⟨h1, g, h3.1⟩)
      · exact h4 r y
theorem layer_cov : ∀ (L : List (List Nat)) (seen : List Nat) (p : List Nat), p ∈ L → ∀ x, x < n → f (lst p) x ≤ h → x ∈ seen ∨ x ∈ (layer n f h L seen).map lst
  | [], _, p, hp, _, _, _ => by simp at hp
  | q :: ps, seen, p, hp, x, hx, hf => by
    show x ∈ seen ∨ x ∈ (((frsh n f h q seen).map fun x => q ++ [x]) ++ layer n f h ps (seen ++ frsh n f h q seen)).map lst
    rw [List.map_append, lst_kids, List.mem_append]
    rcases List.mem_cons.mp hp with y | y
    · subst y
      by_cases hs : x ∈ seen
      · exact .inl hs
      · exact .inr (.inl (mem_frsh.mpr ⟨hx, hf, hs⟩))
    · rcases layer_cov ps (seen ++ frsh n f h q seen) p y x hx hf with z | z
      · rcases List.mem_append.mp z with z | z
        · exact .inl z
        · exact .inr (.inl z)
      · exact .inr (.inr z)
theorem layer_nd : ∀ (L : List (List Nat)) (seen : List Nat), seen.Nodup → (seen ++ (layer n f h L seen).map lst).Nodup
  | [], seen, hs => by simpa [layer] using hs
  | q :: ps, seen, hs => by
    show (seen ++ (((frsh n f h q seen).map fun x => q ++ [x]) ++ layer n f h ps (seen ++ frsh n f h q seen)).map lst).Nodup
    rw [List.map_append, lst_kids, ← List.append_assoc]
    refine layer_nd ps _ ?_
    rw [List.nodup_append]
    exact ⟨hs, frsh_nd _ _, fun a ha b hb e => (mem_frsh.mp hb).2.2 (e ▸ ha)⟩
theorem layer_srt : ∀ (L : List (List Nat)) (seen : List Nat), L.Pairwise Lx → (layer n f h L seen).Pairwise Lx
  | [], _, _ => .nil
  | p :: ps, seen, hs => by
    obtain ⟨h1, h2⟩ := List.pairwise_cons.mp hs
    show (((frsh n f h p seen).map fun x => p ++ [x]) ++ layer n f h ps (seen ++ frsh n f h p seen)).Pairwise Lx
    rw [List.pairwise_append]
    refine ⟨List.pairwise_map.mpr ((frsh_asc p seen).imp fun hab => Lx.snoc hab p), layer_srt ps _ h2, fun a ha b hb => ?_⟩
    obtain ⟨x, _, rfl⟩ := List.mem_map.mp ha
    obtain ⟨L1, q, L2, y, e, rfl, _⟩ := layer_mem ps _ b hb
    exact (h1 q (by rw [e]; simp)).app _ _
theorem layer_skip : ∀ (A L : List (List Nat)) (seen : List Nat), (∀ p ∈ A, frsh n f h p seen = []) → layer n f h (A ++ L) seen = layer n f h L seen
  | [], _, _, _ => rfl
  | p :: A, L, seen, hA => by
    show ((frsh n f h p seen).map fun x => p ++ [x]) ++ layer n f h (A ++ L) (seen ++ frsh n f h p seen) = _
    rw [hA p (List.mem_cons_self ..), List.append_nil, List.map_nil, List.nil_append]
    exact layer_skip A L seen fun q hq => hA q (List.mem_cons_of_mem _ hq)
structure Gd (n : Nat) (f : Nat → Nat → Int) (h : Int) (i : Nat) (p : List Nat) : Prop where
  hd : p.head? = some i
  lt : ∀ x ∈ p, x < n
  st : Steps f h p
theorem Gd.ne {p : List Nat} (g : Gd n f h i p) : p ≠ [] := fun e => by
  have := g.hd
  rw [e] at this
  simp at this
theorem Gd.snoc {p : List Nat} {x : Nat} (g : Gd n f h i p) (hx : x < n) (hf : f (lst p) x ≤ h) : Gd n f h i (p ++ [x]) := by
  refine ⟨?_, fun y hy => ?_, fun m a b h1 h2 => ?_⟩
  · have hd := g.hd
    cases p with
    | nil => simp at hd
    | cons y r => simpa using hd
  · rcases List.mem_append.mp hy with z | z
    · exact g.lt y z
    · rw [List.mem_singleton.mp z]; exact hx
  · by_cases hl : m + 1 < p.length
    · rw [List.getElem?_append_left (by omega)] at h1
      rw [List.getElem?_append_left hl] at h2
      exact g.st m a b h1 h2
    · by_cases he : m + 1 = p.length
      · rw [List.getElem?_append_left (by omega)] at h1
        rw [List.getElem?_append_right (by omega), he, Nat.sub_self] at h2
        cases Option.some.inj h2
        have e := lst_some g.ne
        rw [List.getLast?_eq_getElem?, show p.length - 1 = m by omega, h1] at e
        cases Option.some.inj e
        exact hf
      · rw [List.getElem?_eq_none (by rw [List.length_append]; simp; omega)] at h2
        cases h2
/-- a good path is one item, or one that is longer by a step -/
theorem Gd.split {q : List Nat} (g : Gd n f h i q) : q = [i] ∨ ∃ r x, q = r ++ [x] ∧ Gd n f h i r ∧ x < n ∧ f (lst r) x ≤ h := by
  obtain ⟨r, x, rfl⟩ := split_last q g.ne
  by_cases hr : r = []
  · subst hr
    have := g.hd
    simp at this
    exact .inl (by rw [this]; rfl)
  · refine .inr ⟨r, x, rfl, ⟨?_, fun y hy => g.lt y (List.mem_append_left _ hy), fun m a b h1 h2 => ?_⟩, g.lt x (by simp), ?_⟩
    · have hd := g.hd
      cases r with
      | nil => exact absurd rfl hr
      | cons y s => simpa using hd
    · refine g.st m a b ?_ ?_
      · rw [List.getElem?_append_left (List.getElem?_eq_some_iff.mp h1).1]; exact h1
      · rw [List.getElem?_append_left (List.getElem?_eq_some_iff.mp h2).1]; exact h2
    · have hl : 0 < r.length := List.length_pos_iff.mpr hr
      have e := lst_some hr
      rw [List.getLast?_eq_getElem?] at e
      refine g.st (r.length - 1) _ _ ?_ ?_
      · rw [List.getElem?_append_left (by omega)]; exact e
      · rw [show r.length - 1 + 1 = r.length by omega, List.getElem?_append_right (Nat.le_refl _), Nat.sub_self]
        rfl
structure Bst (n : Nat) (f : Nat → Nat → Int) (h : Int) (i : Nat) (p : List Nat) : Prop where
  gd : Gd n f h i p
  mn : ∀ q, Gd n f h i q → lst q = lst p → p.length < q.length ∨ (p.length = q.length ∧ (p = q ∨ Lx p q))
structure Bfs (n : Nat) (f : Nat → Nat → Int) (h : Int) (i : Nat) (A L : List (List Nat)) (k : Nat) : Prop where
  nd : ((A ++ L).map lst).Nodup
  best : ∀ p ∈ A ++ L, Bst n f h i p
  nod : ∀ p ∈ A ++ L, p.Nodup ∧ ∀ x ∈ p, x ∈ (A ++ L).map lst
  len : ∀ p ∈ L, p.length = k + 1
  cl : ∀ p ∈ A, ∀ x, x < n → f (lst p) x ≤ h → x ∈ (A ++ L).map lst
  srt : L.Pairwise Lx
  near : ∀ q, Gd n f h i q → q.length ≤ k → lst q ∈ A.map lst
  root : i ∈ (A ++ L).map lst
theorem Bfs.next {A L : List (List Nat)} {k : Nat} (b : Bfs n f h i A L k) : Bfs n f h i (A ++ L) (layer n f h L ((A ++ L).map lst)) (k + 1) := by
  have near' : ∀ q, Gd n f h i q → q.length ≤ k + 1 → lst q ∈ (A ++ L).map lst := fun q g hq => by
    by_cases hk : q.length ≤ k
    · rw [List.map_append]
      exact List.mem_append_left _ (b.near q g hk)
    · rcases g.split with e | ⟨r, x, rfl, gr, hx, hf⟩
      · subst e
        exact b.root
      · rw [List.length_append] at hq hk
        have hq' : r.length + 1 ≤ k + 1 := hq
        have := b.near r gr (by omega)
        obtain ⟨p, hp, e⟩ := List.mem_map.mp this
        rw [lst_snoc]
        exact b.cl p hp x hx (by rw [e]; exact hf)
  have mem : ∀ c, c ∈ layer n f h L ((A ++ L).map lst) → ∃ L1 p L2 x, L = L1 ++ p :: L2 ∧ c = p ++ [x] ∧ x < n ∧ f (lst p) x ≤ h ∧ x ∉ (A ++ L).map lst ∧ ∀ q ∈ L1, ¬ f (lst q) x ≤ h := layer_mem _ _
  have inL : ∀ {p : List Nat}, p ∈ L → p ∈ A ++ L := fun hp => List.mem_append_right _ hp
  refine ⟨?_, fun c hc => ?_, fun c hc => ?_, fun c hc => ?_, fun p hp x hx hf => ?_, layer_srt _ _ b.srt, near', ?_⟩
  · rw [List.map_append]
    exact layer_nd _ _ b.nd
  · rcases List.mem_append.mp hc with z | z
    · exact b.best c z
    · obtain ⟨L1, p, L2, x, e, rfl, hx, hf, hs, hfirst⟩ := mem c z
      have hp : p ∈ L := by rw [e]; simp
      have gp := (b.best p (inL hp)).gd
      refine ⟨gp.snoc hx hf, fun q g eq => ?_⟩
      rw [lst_snoc] at eq
      have lp := b.len p hp
      have hq : ¬ q.length ≤ k + 1 := fun hq => hs (by rw [← eq]; exact near' q g hq)
      rw [List.length_append]
      by_cases hq2 : q.length = k + 2
      · refine .inr ⟨by show p.length + 1 = _; omega, ?_⟩
        rcases g.split with e1 | ⟨r, y, rfl, gr, hy, hfr⟩
        · rw [e1] at hq2
          simp at hq2
        · rw [lst_snoc] at eq
          subst eq
          rw [List.length_append] at hq2
          have hr : r.length = k + 1 := by
            have : r.length + 1 = k + 2 := hq2
            omega
          have hin := near' r gr (by omega)
          rw [List.map_append] at hin
          rcases List.mem_append.mp hin with z | z
          · obtain ⟨a, ha, ea⟩ := List.mem_map.mp z
            exact absurd (b.cl a ha y hy (by rw [ea]; exact hfr)) hs
          · obtain ⟨a, ha, ea⟩ := List.mem_map.mp z
            have hfa : f (lst a) y ≤ h := by rw [ea]; exact hfr
            have pa : p = a ∨ Lx p a := by
              rw [e] at ha
              rcases List.mem_append.mp ha with w | w
              · exact absurd hfa (hfirst a w)
              · rcases List.mem_cons.mp w with w | w
                · exact .inl w.symm
                · have := b.srt
                  rw [e, List.pairwise_append] at this
                  exact .inr ((List.pairwise_cons.mp this.2.1).1 a w)
            rcases (b.best a (inL ha)).mn r gr ea.symm with w | ⟨_, w⟩
            · have := b.len a ha
              omega
            · have pr : p = r ∨ Lx p r := by
                rcases pa with u | u <;> rcases w with v | v
                · exact .inl (u.trans v)
                · exact .inr (u ▸ v)
                · exact .inr (v ▸ u)
                · exact .inr (u.trans v)
              rcases pr with u | u
              · exact .inl (by rw [u])
              · exact .inr (u.app _ _)
      · exact .inl (by show p.length + 1 < _; omega)
  · rcases List.mem_append.mp hc with z | z
    · refine ⟨(b.nod c z).1, fun x hx => ?_⟩
      rw [List.map_append]
      exact List.mem_append_left _ ((b.nod c z).2 x hx)
    · obtain ⟨L1, p, L2, x, e, rfl, hx, hf, hs, _⟩ := mem c z
      have hp : p ∈ L := by rw [e]; simp
      obtain ⟨n1, n2⟩ := b.nod p (inL hp)
      refine ⟨?_, fun y hy => ?_⟩
      · rw [List.nodup_append]
        refine ⟨n1, by simp, fun a ha b' hb => ?_⟩
        rw [List.mem_singleton.mp hb]
        exact fun e => hs (e ▸ n2 a ha)
      · rw [List.map_append]
        rcases List.mem_append.mp hy with w | w
        · exact List.mem_append_left _ (n2 y w)
        · rw [List.mem_singleton.mp w]
          exact List.mem_append_right _ (List.mem_map.mpr ⟨_, z, lst_snoc _ _⟩)
  · obtain ⟨L1, p, L2, x, e, rfl, _⟩ := mem c hc
    rw [List.length_append, b.len p (by rw [e]; simp)]
    rfl
  · rw [List.map_append]
    rcases List.mem_append.mp hp with z | z
    · exact List.mem_append_left _ (b.cl p z x hx hf)
    · exact List.mem_append.mpr (layer_cov _ _ p z x hx hf)
  · rw [List.map_append]
    exact List.mem_append_left _ b.root
/-- where nothing is added, all is reached -/
theorem Bfs.done {A L : List (List Nat)} {k : Nat} (b : Bfs n f h i A L k) (e : layer n f h L ((A ++ L).map lst) = []) {j : Nat} (w : Wk f n h i j) : j ∈ (A ++ L).map lst := by
  induction w with
  | refl => exact b.root
  | @step x y _ hx hy hf ih =>
    obtain ⟨p, hp, ep⟩ := List.mem_map.mp ih
    rcases List.mem_append.mp hp with z | z
    · exact b.cl p z y hy (by rw [ep]; exact hf)
    · rcases layer_cov L ((A ++ L).map lst) p z y hy (by rw [ep]; exact hf) with v | v
      · exact v
      · rw [e] at v
        simp at v
/-- what all paths add is what the last ones add -/
theorem Bfs.all {A L : List (List Nat)} {k : Nat} (b : Bfs n f h i A L k) : layer n f h (A ++ L) ((A ++ L).map lst) = layer n f h L ((A ++ L).map lst) := by
  refine layer_skip A L _ fun p hp => ?_
  refine List.eq_nil_iff_forall_not_mem.mpr fun x hx => ?_
  obtain ⟨h1, h2, h3⟩ := mem_frsh.mp hx
  exact h3 (b.cl p hp x h1 h2)
end
end Ml
namespace Ml
open PySem PySem.Spec PyProof.Rows L2
/-! ### pairs as data -/
abbrev e2 (p : Nat × Nat) : List Int := [(p.1 : Int), (p.2 : Int)]
theorem Prs.kp {K : PySem.W.Frag} {H H' : Hp} {d c r : Addr} {n : Nat} {vs : List V} {E : List (Nat × Nat)} (h : Prs K H vs E) (g : Dr H d c r n) (e : Kp d r H H') : Prs K H' vs E :=
  ⟨h.1, fun i v p a b => let ⟨q, h1, h2⟩ := h.2 i v p a b; ⟨q, h1, g.kpT e h2⟩⟩
theorem lay_tab (t : List (List Int)) : SeqAt.shaped (tabD t) = true := by
  show ((PyData.tuple (t.map rowD)).canLay0 && decide ((PyData.tuple (t.map rowD)).depth ≤ 64)) = true
  have h := dep_rows t
  have d : (PyData.tuple (t.map rowD)).depth ≤ 64 := by
    have e : (PyData.tuple (t.map rowD)).depth = PyData.depthAll (t.map rowD) + 1 := by simp [PyData.depth]
    omega
  have l : (PyData.tuple (t.map rowD)).canLay0 = true := by simp [PyData.canLay0, lay_rows t]
  rw [l, decide_eq_true d]
  rfl
theorem TT.upd {K : PySem.W.Frag} {H : Hp} {p : Addr} {ys zs : List V} {v : V} {t : List (List Int)} (h : TT K H v t) (hp : H p = some (.lst ys)) : TT K (L2.upd H p (.lst zs)) v t := by
  obtain ⟨q, vs, h1, h2, h3⟩ := h
  exact ⟨q, vs, h1, sqT_upd hp h2, h3.upd hp⟩
end Ml
namespace Ml
open PySem PySem.Spec PyProof.Rows L2
/-! ### the least of some data -/
abbrev tupD (p : List Nat) : PyData := .tuple ((iL p).map PyData.int)
abbrev D3 (a : Int) (p : List Nat) : PyData := .tuple [.int a, .int (p.length : Int), tupD p]
theorem dpAll_of {K : PySem.W.Frag} {H : Hp} : ∀ {us : List V} {ds : List PyData}, us.length = ds.length → (∀ (i : Nat) v d, us[i]? = some v → ds[i]? = some d → Dp K H v d) → DpAll K H us ds
  | [], [], _, _ => .nil
  | u :: us, d :: ds, hl, h => .cons (h 0 u d rfl rfl) (dpAll_of (by simpa using hl) fun i v e a b => h (i + 1) v e (by simpa using a) (by simpa using b))
end Ml
namespace Ml
open PySem PySem.Spec PyProof.Rows L2
/-! ### groups -/
structure GrF (F : Nat → Nat → Int) (n : Nat) (l : Int) : Prop where
  self : ∀ i, i < n → F i i ≤ l
  sym : ∀ i j, F i j = F j i
  tri : ∀ i j k, i < n → j < n → k < n → F i j ≤ max (F i k) (F k j)
def grp (F : Nat → Nat → Int) (n : Nat) (l : Int) (i : Nat) : List Nat := (List.range n).filter fun j => decide (F i j ≤ l)
theorem mem_grp {F : Nat → Nat → Int} {n : Nat} {l : Int} {i j : Nat} : j ∈ grp F n l i ↔ j < n ∧ F i j ≤ l := by
  unfold grp
  rw [List.mem_filter, List.mem_range, decide_eq_true_iff]
section
variable {F : Nat → Nat → Int} {n : Nat} {l : Int}
theorem grp_self (G : GrF F n l) {i : Nat} (hi : i < n) : i ∈ grp F n l i := mem_grp.mpr ⟨hi, G.self i hi⟩
end
theorem grp_ne {F : Nat → Nat → Int} {n : Nat} {l : Int} (G : GrF F n l) {i : Nat} (hi : i < n) : grp F n l i ≠ [] := fun e => by
  have := grp_self G hi
  rw [e] at this
  cases this
def hdI (k : List Int) : Int := k.headD 0
/-- the groups in the order of their first items -/
def heads (F : Nat → Nat → Int) (n : Nat) (l : Int) (m : Nat) : List Nat := (List.range m).filter fun i => decide ((grp F n l i).head? = some i)
def gsL (F : Nat → Nat → Int) (n : Nat) (l : Int) (m : Nat) : List (List Nat) := (heads F n l m).map (grp F n l)
end Ml
/-! enumerate(tuple) -/
namespace Ml
open PySem PySem.Spec PyProof.Rows L2
/-! indices within comprehensions: the world is named -/
theorem ixK (K : PySem.W.Frag) {X : Cx} (h : X.K = K) : IxR X (rIxL K) := h ▸ ix_list
end Ml
namespace Ml
open PySem PySem.Spec PyProof.Rows L2
section
variable {X : Cx}
/-- t + u: some tuple of both -/
def rCatW (K : PySem.W.Frag) : R2 := fun x y H Q => ∃ a b xs ys, x = .ref a ∧ y = .ref b ∧ SqT K H a xs ∧ SqT K H b ys ∧ xs.length + ys.length ≤ sizeLine ∧ ∀ p H', Sm H H' → SqT K H' p (xs ++ ys) → Q (.ref p) H'
theorem op_catW : OpR X (binaryOp .Add) (rCatW X.K) := by
  intro pins s σ H x y v u Q I rx ry h
  obtain ⟨a, b, xs, ys, e1, e2, ha, hb, hz, q⟩ := h
  refine op_catA pins s σ H x y v u Q I rx ry ⟨a, b, xs, ys, e1, e2, ha, hb, hz, fun e => ?_, fun _ e => ?_, fun _ _ p hp => ?_⟩
  · rw [e, List.nil_append] at q
    exact q b H (Sm.refl H) hb
  · rw [e, List.append_nil] at q
    exact q a H (Sm.refl H) ha
  · exact q p _ (Sm.new hp) (SqT.of upd_same)
/-- t[lo:hi]: some tuple of these -/
def rSlW (K : PySem.W.Frag) : V → Option Int → Option Int → Hp → VK → Prop := fun x lo hi H Q => ∃ a xs, x = .ref a ∧ SqT K H a xs ∧ ∀ p H', Sm H H' → SqT K H' p (cutV xs lo hi) → Q (.ref p) H'
theorem sl_tupW : SlR X (rSlW X.K) := by
  intro pins s σ H x v vl vu lo hi sl Q I rx hs pl pu h
  obtain ⟨a, xs, e1, ha, q⟩ := h
  refine sl_tupA pins s σ H x v vl vu lo hi sl Q I rx hs pl pu ⟨a, xs, e1, ha, fun e => ?_, fun _ p hp => ?_⟩
  · refine q a H (Sm.refl H) ?_
    have e3 : cutV xs lo hi = xs := by
      unfold cutV
      rw [e.1, e.2, List.drop_zero, Nat.sub_zero, List.take_length]
    rw [e3]
    exact ha
  · exact q p _ (Sm.new hp) (SqT.of upd_same)
end
theorem cut_to (xs : List V) (k : Nat) : cutV xs none (some (k : Int)) = xs.take k := by
  unfold cutV
  rw [HT.sIx_none, HT.sIx_nat, List.drop_zero, Nat.sub_zero]
  by_cases h : k ≤ xs.length
  · rw [Nat.min_eq_left h]
  · rw [Nat.min_eq_right (by omega), List.take_length, List.take_of_length_le (by omega)]
theorem cut_from (xs : List V) (k : Nat) : cutV xs (some (k : Int)) none = xs.drop k := by
  unfold cutV
  rw [HT.sIx_none, HT.sIx_nat]
  by_cases h : k ≤ xs.length
  · rw [Nat.min_eq_left h]
    exact List.take_of_length_le (by rw [List.length_drop]; omega)
  · rw [Nat.min_eq_right (by omega), List.drop_length, List.drop_of_length_le (by omega), List.take_nil]
theorem set_parts {α : Type} (xs : List α) (i : Nat) (v : α) (h : i < xs.length) : xs.take i ++ [v] ++ xs.drop (i + 1) = xs.set i v := by
  rw [List.set_eq_take_append_cons_drop, if_pos h, List.append_assoc]
  rfl
theorem Rows.set {K : PySem.W.Frag} {H : Hp} {vs : List V} {t : List (List Int)} {i : Nat} {v : V} {ns : List Int} (h : Rows K H vs t) (q : IT K H v ns) : Rows K H (vs.set i v) (t.set i ns) := by
  refine ⟨by rw [List.length_set, List.length_set]; exact h.1, fun j u ms a b => ?_⟩
  by_cases e : i = j
  · subst e
    rw [List.getElem?_set_self'] at a b
    cases e1 : vs[i]? with
    | none => rw [e1] at a; cases a
    | some z =>
      cases e2 : t[i]? with
      | none => rw [e2] at b; cases b
      | some y =>
        rw [e1] at a
        rw [e2] at b
        cases Option.some.inj a
        cases Option.some.inj b
        exact q
  · rw [List.getElem?_set_ne e] at a b
    exact h.2 j u ms a b
theorem WT.set {t : List (List Int)} {i : Nat} {ns : List Int} (h : WT t) (h1 : ns.length = i) (h2 : ∀ x ∈ ns, LvOk x) : WT (t.set i ns) := by
  intro j ms q
  by_cases e : i = j
  · subst e
    rw [List.getElem?_set_self'] at q
    cases e1 : t[i]? with
    | none => rw [e1] at q; cases q
    | some z =>
      rw [e1] at q
      cases Option.some.inj q
      exact ⟨h1, h2⟩
  · rw [List.getElem?_set_ne e] at q
    exact h j ms q
end Ml
namespace Ml
open PySem PySem.Spec PyProof.Rows L2
theorem tuple_mul1 (l : Addr) (items : Array Value) (n : Nat) (dd : Option Addr) (sl : Array (Option Value)) (u : Tok) :
    Meets (Builtin.«tuple.__mul__» ⟨[.ref l, .int 1 u], []⟩) (fun _ R s => s.heap.get? l = some { cls := .type "tuple", dict := dd, data := .seq items n, slots := sl } ∧ R (.ok (.ret (Value.ref l))) s) :=
  .of_wp fun prog w A R s h => by
    obtain ⟨hp, g, d, tk, os⟩ := s
    obtain ⟨hl, h⟩ := h
    have f1 := AutoSeq1.idx_int
    have c1 : (items.isEmpty || (1 : Int) == 1) = true := by simp
    wp_walk using wpAny_loadPart' hl
    repeat (first
      | (refine wpAny_ite_false (decide_eq_false (by decide)) ?_; wp_walk using wpAny_loadPart' hl)
      | (refine wpAny_ite_true (decide_eq_true c1) ?_; wp_walk using wpAny_loadPart' hl))
    exact ⟨_, rfl, h⟩
/-- t * k: some tuple of k times these -/
def rRepW (K : PySem.W.Frag) : R2 := fun x y H Q => ∃ l k xs, x = .ref l ∧ y = .int k ∧ SqT K H l xs ∧ xs ≠ [] ∧ 1 ≤ k ∧ k ≤ 1000 ∧ xs.length ≤ 1000 ∧ ∀ p H', Sm H H' → SqT K H' p (List.replicate k.toNat xs).flatten → Q (.ref p) H'
theorem op_repW {X : Cx} : OpR X (binaryOp .Mult) (rRepW X.K) := by
  intro pins s σ H x y v u Q I rx ry h
  obtain ⟨l, k, xs, rfl, rfl, hT, hne, h1, h2, hz, q⟩ := h
  by_cases hk : 2 ≤ k
  · exact op_repT pins s σ H _ _ v u Q I rx ry ⟨l, k, xs, rfl, rfl, hT, hne, hk, h2, hz, fun p hp => q p _ (Sm.new hp) (SqT.of upd_same)⟩
  · obtain rfl : k = 1 := by omega
    cases rx
    obtain ⟨t, rfl⟩ := ry
    obtain ⟨its, r, ⟨⟨cls, dd, data, sl⟩, ho, hc, n, hd⟩, hs⟩ := I.tuple hT
    simp only at hc hd
    subst hc hd
    refine wpAny_binaryOp_repeat_ref (T := "tuple") (U := "int") (by decide) ⟨_, ho, rfl⟩ (fun s' => typeIs_int s' 1 t) noFill_tuple_mul F.fills_int_mul F.slot_int_rmul repeat_tuple F.slot_int_index.lookup
      (call_meets F.slot_int_rmul (typeIs_int s 1 t) F.entry_int_rmul (F.args_int_rmul_2 _ _) (int_rmul_tuple 1 t l its.toArray n dd sl)
        ⟨ho, rfl, ⟨_, ho, rfl⟩, call_meets F.slot_tuple_mul ⟨_, ho, rfl⟩ F.entry_tuple_mul (F.args_tuple_mul_2 _ _) (tuple_mul1 l its.toArray n dd sl t) ⟨ho, ?_⟩⟩)
    refine ⟨.ref l, H, I, rfl, q l H (Sm.refl _) ?_⟩
    show SqT X.K H l (List.replicate 1 xs).flatten
    simpa using hT
/-! equal tables, equal data -/
theorem eqvAll_rows : ∀ (a b : List (List Int)), PyData.eqvAll (a.map rowD) (b.map rowD) = decide (a = b)
  | [], [] => by simp [PyData.eqvAll]
  | [], _ :: _ => by simp [PyData.eqvAll]
  | _ :: _, [] => by simp [PyData.eqvAll]
  | x :: a, y :: b => by
    rw [List.map_cons, List.map_cons]
    unfold PyData.eqvAll
    rw [eqvAll_rows a b]
    have e : PyData.eqv (rowD x) (rowD y) = decide (x = y) := eqv_tup x y
    rw [e]
    by_cases h1 : x = y <;> by_cases h2 : a = b <;> simp [h1, h2]
theorem eqv_tabs (a b : List (List Int)) : PyData.eqv (tabD a) (tabD b) = decide (a = b) := by
  unfold tabD
  unfold PyData.eqv
  exact eqvAll_rows a b
end Ml
namespace Ml
open PySem PySem.Spec PyProof.Rows L2 TL
/-! ### texts as lists of signs -/
def numI (i : Int) : List Nat := numL i.toNat
theorem tl_int {i : Int} (h : 0 ≤ i) : tl (toString i : Str) = numI i := by
  obtain ⟨n, rfl⟩ : ∃ n : Nat, i = (n : Int) := ⟨i.toNat, by omega⟩
  exact tl_num n
theorem numI_inj {i j : Int} (hi : 0 ≤ i) (hj : 0 ≤ j) (h : numI i = numI j) : i = j := by
  have := numL_inj h
  omega
theorem numI_len {i : Int} (h : i < 10000000000000) : (numI i).length ≤ 13 := numL_len (by decide) (by
  have e : (10 : Nat) ^ 13 = 10000000000000 := by decide
  omega)
theorem numI_free {i : Int} {s : Nat} (h : s < 48 ∨ 57 < s) : s ∉ numI i := numL_free h
theorem digit_ok : ∀ c : Nat, c < 58 → 48 ≤ c → Unicode.isDigit c = true := by decide
theorem num_facts {s : Str} {i : Int} (h0 : 0 ≤ i) (h : i < 10000000000000) (e : tl s = numI i) : Txt.removeprefix s ("-" : Str) = s ∧ Txt.isascii s = true ∧ Txt.isdigit s = true ∧ s.length ≤ 13 ∧ intText? s = some i ∧ s = (toString i : Str) := by
  have dg : ∀ c ∈ tl s, 48 ≤ c ∧ c ≤ 57 := fun c hc => by
    rw [e] at hc
    have := numL_digits i.toNat c hc
    omega
  have ne : tl s ≠ [] := by rw [e]; exact numL_ne _
  have es : s = (toString i : Str) := ext_tl (by rw [e, tl_int h0])
  have len : s.length ≤ 13 := by rw [len_tl, e]; exact numI_len h
  refine ⟨?_, ?_, ?_, len, ?_, es⟩
  · have no : Builtin.Str.subAt s ("-" : Str) 0 = false := by
      rw [PySem.StrLaws.subAt_eq, beq_eq_false_iff_ne]
      intro z
      have m : ("-" : Str).cps.toList = [45] := by decide +kernel
      have m2 : ("-" : Str).length = 1 := by decide +kernel
      rw [m, m2, List.drop_zero] at z
      cases hc : s.cps.toList with
      | nil => exact ne hc
      | cons c r =>
        rw [hc] at z
        have z1 : c = 45 := (List.cons.inj z).1
        have := dg c (by show c ∈ s.cps.toList; rw [hc]; exact List.mem_cons_self)
        omega
    unfold Txt.removeprefix
    rw [no]
    rfl
  · show s.cps.all (· < 128) = true
    rw [← Array.all_toList]
    refine List.all_eq_true.mpr fun c hc => ?_
    have := dg c hc
    exact decide_eq_true (by omega)
  · show (decide (s.length > 0) && s.cps.all Unicode.isDigit) = true
    rw [Bool.and_eq_true]
    refine ⟨decide_eq_true ?_, ?_⟩
    · rw [len_tl]
      exact List.length_pos_iff.mpr ne
    · rw [← Array.all_toList]
      refine List.all_eq_true.mpr fun c hc => ?_
      have := dg c hc
      exact digit_ok c (by omega) this.1
  · rw [es]
    obtain ⟨n, rfl⟩ : ∃ n : Nat, i = (n : Int) := ⟨i.toNat, by omega⟩
    exact int_num (by have := numI_len h; exact Nat.le_trans this (by decide))
/-- a text split at one sign -/
theorem split_codes {s y : Str} {c : Nat} (ey : tl y = [c]) (hk : y.cps.all (· < 256) = true) {parts : List (List Nat)} (hne : parts ≠ []) (hp : ∀ p ∈ parts, c ∉ p) (hs : tl s = joinL [c] parts) : (Txt.split s y).map tl = parts := by
  rw [split_spl _ y (by rw [ey]; simp) (kind_ok hk), ey, hs]
  exact spl_join hne hp
theorem joinL_flat (S : List Nat) : ∀ (w : List Nat) (ps : List (List Nat)), joinL S (w :: ps) = w ++ ps.flatMap (fun p => S ++ p)
  | w, [] => by simp [joinL]
  | w, p :: ps => by
    show w ++ (S ++ joinL S (p :: ps)) = _
    rw [joinL_flat S p ps, List.flatMap_cons, List.append_assoc]
theorem joinL_lines (ls : List (List Nat)) : joinL [10] (ls ++ [[]]) = ls.flatMap fun l => l ++ [10] := by
  induction ls with
  | nil => rfl
  | cons a ls ih =>
    obtain ⟨b, r, e⟩ : ∃ b r, ls ++ [[]] = b :: r := by
      cases ls with
      | nil => exact ⟨_, _, rfl⟩
      | cons b r => exact ⟨_, _, rfl⟩
    rw [List.cons_append, List.flatMap_cons, ← ih, e]
    show a ++ ([10] ++ joinL [10] (b :: r)) = _
    rw [List.append_assoc]
theorem lenJ {S : List Nat} {B : Nat} : ∀ {ps : List (List Nat)}, (∀ p ∈ ps, p.length + S.length ≤ B) → (joinL S ps).length ≤ B * ps.length
  | [], _ => Nat.zero_le _
  | p :: ps, h => by
    rw [joinL_flat, List.length_append, List.length_cons]
    have h1 := h p List.mem_cons_self
    have h2 : ∀ qs : List (List Nat), (∀ q ∈ qs, q.length + S.length ≤ B) → (qs.flatMap fun q => S ++ q).length ≤ B * qs.length := fun qs => by
      induction qs with
      | nil => exact fun _ => Nat.zero_le _
      | cons q qs ih =>
        intro hq
        have a := ih fun x hx => hq x (List.mem_cons_of_mem _ hx)
        have b := hq q List.mem_cons_self
        rw [List.flatMap_cons, List.length_append, List.length_append, List.length_cons, Nat.mul_succ]
        omega
    have := h2 ps fun q hq => h q (List.mem_cons_of_mem _ hq)
    rw [Nat.mul_succ]
    omega
/-! ### the text of a table -/
def wItems : List Nat := [105, 116, 101, 109, 115]
def wRow : List Nat := [114, 111, 119]
def cI (n : Nat) : List Nat := wItems ++ (32 :: numL n)
def cR (r : List Int) : List Nat := wRow ++ r.flatMap fun x => 32 :: numI x
def cLines (t : List (List Int)) : List (List Nat) := cI t.length :: (t.drop 1).map cR
def ctab (t : List (List Int)) : List Nat := (cLines t).flatMap fun l => l ++ [10]
theorem cR_join (r : List Int) : cR r = joinL [32] (wRow :: r.map numI) := by
  rw [joinL_flat, List.flatMap_map]
  rfl
theorem cR_len {r : List Int} (h : ∀ x ∈ r, LvOk x) : (cR r).length ≤ 3 + 14 * r.length := by
  unfold cR
  have : ∀ q : List Int, (∀ x ∈ q, LvOk x) → (q.flatMap fun x => 32 :: numI x).length ≤ 14 * q.length := fun q => by
    induction q with
    | nil => exact fun _ => Nat.zero_le _
    | cons x q ih =>
      intro hq
      have a := ih fun y hy => hq y (List.mem_cons_of_mem _ hy)
      have b := numI_len (i := x) (by have := (hq x List.mem_cons_self).2; omega)
      rw [List.flatMap_cons, List.length_append, List.length_cons, List.length_cons, Nat.mul_succ]
      omega
  have a := this r h
  rw [List.length_append]
  have : wRow.length = 3 := rfl
  omega
theorem flat_len {α : Type} {f : α → List Nat} {B : Nat} : ∀ {l : List α}, (∀ x ∈ l, (f x).length ≤ B) → (l.flatMap f).length ≤ B * l.length
  | [], _ => Nat.zero_le _
  | x :: l, h => by
    have a := flat_len (l := l) fun y hy => h y (List.mem_cons_of_mem _ hy)
    have b := h x List.mem_cons_self
    rw [List.flatMap_cons, List.length_append, List.length_cons, Nat.mul_succ]
    omega
theorem cI_len {n : Nat} (h : n ≤ 20) : (cI n).length ≤ 19 := by
  have := numL_len (n := n) (k := 2) (by decide) (by omega)
  unfold cI
  rw [List.length_append, List.length_cons]
  have : wItems.length = 5 := rfl
  omega
theorem nf_items : (10 : Nat) ∉ wItems ∧ (32 : Nat) ∉ wItems := by decide
theorem nf_row : (10 : Nat) ∉ wRow ∧ (32 : Nat) ∉ wRow := by decide
theorem cI_free (n : Nat) : (10 : Nat) ∉ cI n := fun h => by
  rcases List.mem_append.mp h with h | h
  · exact nf_items.1 h
  · rcases List.mem_cons.mp h with h | h
    · exact absurd h (by decide)
    · exact numL_free (by omega) h
theorem cR_free (r : List Int) : (10 : Nat) ∉ cR r := fun h => by
  rcases List.mem_append.mp h with h | h
  · exact nf_row.1 h
  · obtain ⟨x, _, h⟩ := List.mem_flatMap.mp h
    rcases List.mem_cons.mp h with h | h
    · exact absurd h (by decide)
    · exact numI_free (by omega) h
theorem lines_free {t : List (List Int)} : ∀ p ∈ cLines t ++ [[]], (10 : Nat) ∉ p := fun p hp => by
  rcases List.mem_append.mp hp with hp | hp
  · rcases List.mem_cons.mp hp with rfl | hp
    · exact cI_free _
    · obtain ⟨r, _, rfl⟩ := List.mem_map.mp hp
      exact cR_free r
  · rw [List.mem_singleton.mp hp]
    exact List.not_mem_nil
theorem ctab_join (t : List (List Int)) : ctab t = joinL [10] (cLines t ++ [[]]) := (joinL_lines _).symm
theorem ctab_lines {t u : List (List Int)} (h : ctab t = ctab u) : cLines t = cLines u := by
  rw [ctab_join, ctab_join] at h
  have a := spl_join (s := 10) (S := []) (parts := cLines t ++ [[]]) (by simp) lines_free
  have b := spl_join (s := 10) (S := []) (parts := cLines u ++ [[]]) (by simp) lines_free
  rw [h, b] at a
  exact (List.append_cancel_right a).symm
theorem words_free (r : List Int) : ∀ p ∈ wRow :: r.map numI, (32 : Nat) ∉ p := fun p hp => by
  rcases List.mem_cons.mp hp with rfl | hp
  · exact nf_row.2
  · obtain ⟨x, _, rfl⟩ := List.mem_map.mp hp
    exact numI_free (by omega)
theorem cR_inj {r q : List Int} (hr : ∀ x ∈ r, LvOk x) (hq : ∀ x ∈ q, LvOk x) (h : cR r = cR q) : r = q := by
  rw [cR_join, cR_join] at h
  have a := spl_join (s := 32) (S := []) (parts := wRow :: r.map numI) (by simp) (words_free r)
  have b := spl_join (s := 32) (S := []) (parts := wRow :: q.map numI) (by simp) (words_free q)
  rw [h, b] at a
  have e := (List.cons.inj a).2
  clear a b h
  induction r generalizing q with
  | nil =>
    cases q with
    | nil => rfl
    | cons _ _ => simp at e
  | cons x r ih =>
    cases q with
    | nil => simp at e
    | cons y q =>
      rw [List.map_cons, List.map_cons] at e
      obtain ⟨e1, e2⟩ := List.cons.inj e
      have hx := (hr x List.mem_cons_self).1
      have hy := (hq y List.mem_cons_self).1
      rw [numI_inj (by omega) (by omega) e1, ih (fun z hz => hr z (List.mem_cons_of_mem _ hz)) (fun z hz => hq z (List.mem_cons_of_mem _ hz)) e2]
theorem wt_row {t : List (List Int)} (hW : WT t) {r : List Int} (h : r ∈ t) : ∀ x ∈ r, LvOk x := by
  obtain ⟨i, hi⟩ := List.getElem?_of_mem h
  exact (hW i r hi).2
theorem ctab_inj {t u : List (List Int)} (ht : WT t) (hu : WT u) (h1 : 1 ≤ t.length) (h2 : 1 ≤ u.length) (h : ctab t = ctab u) : t = u := by
  have e0 := (List.cons.inj (ctab_lines h)).2
  cases t with
  | nil => simp at h1
  | cons a t =>
    cases u with
    | nil => simp at h2
    | cons b u =>
      have ea : a = [] := List.eq_nil_of_length_eq_zero (ht 0 a rfl).1
      have eb : b = [] := List.eq_nil_of_length_eq_zero (hu 0 b rfl).1
      have et : ∀ r ∈ t, ∀ x ∈ r, LvOk x := fun r hr => wt_row ht (List.mem_cons_of_mem _ hr)
      have eu : ∀ r ∈ u, ∀ x ∈ r, LvOk x := fun r hr => wt_row hu (List.mem_cons_of_mem _ hr)
      rw [ea, eb]
      congr 1
      have e : t.map cR = u.map cR := e0
      clear ht hu h1 h2 h ea eb e0
      induction t generalizing u with
      | nil =>
        cases u with
        | nil => rfl
        | cons _ _ => simp at e
      | cons r t ih =>
        cases u with
        | nil => simp at e
        | cons q u =>
          rw [List.map_cons, List.map_cons] at e
          obtain ⟨e1, e2⟩ := List.cons.inj e
          rw [cR_inj (et r List.mem_cons_self) (eu q List.mem_cons_self) e1, ih u (fun z hz => et z (List.mem_cons_of_mem _ hz)) (fun z hz => eu z (List.mem_cons_of_mem _ hz)) e2]
/-! ### the text of a tree -/
mutual
def ctx : PyData → List Nat
  | .int i => numI i
  | .tuple ds => 40 :: (joinL [32] (ctxAll ds) ++ [41])
  | _ => []
def ctxAll : List PyData → List (List Nat)
  | [] => []
  | d :: ds => ctx d :: ctxAll ds
end
theorem ctxAll_map : ∀ ds : List PyData, ctxAll ds = ds.map ctx
  | [] => by unfold ctxAll; rfl
  | d :: ds => by
    unfold ctxAll
    rw [ctxAll_map ds]
    rfl
theorem ctx_int (i : Int) : ctx (.int i) = numI i := by unfold ctx; rfl
theorem ctx_tup (ds : List PyData) : ctx (.tuple ds) = 40 :: (joinL [32] (ds.map ctx) ++ [41]) := by
  rw [← ctxAll_map]
  conv => lhs; unfold ctx
end Ml
/-! enumerate(list, start=1) -/
namespace Ml
open PySem PySem.Spec PyProof.Rows L2
/-- the list at a, each item in a new pair with its place, counted from one -/
def It1 (K : PySem.W.Frag) (a : Addr) : It :=
  ⟨fun i H => ∃ (xs : List V) (x : V), SqL K H a xs ∧ xs[i]? = some x, fun i H v H' => ∃ T x, v = .ref T ∧ H T = none ∧ H' = upd H T (.tup [.int ((i + 1 : Nat) : Int), x]) ∧ ∀ xs, SqL K H a xs → xs[i]? = some x, fun i H => ∃ xs : List V, SqL K H a xs ∧ i = xs.length⟩
theorem turn_enum1 {P : Program} {w : World} {K : PySem.W.Frag} {elts : List Expr} {kk : Nat} {tpos : Pos} (a e it : Addr) (nae : a ≠ e) (nai : a ≠ it) :
    Turn P w K (.Tuple elts kk tpos) (It1 K a) [e, it] e (fun i h => (∃ old, IsEnum h e it ((i + 1 : Nat) : Int) old) ∧ h.IsListIter it a i ∧ e ≠ it) where
  mem := by simp
  obj := fun i h st b hb => by
    obtain ⟨⟨old, he⟩, ⟨o, ho, _, hd⟩, _⟩ := st
    rcases List.mem_cons.mp hb with z | z
    · rw [z]; exact ⟨_, he, fun v q => nomatch q⟩
    · rw [List.mem_singleton.mp z]; exact ⟨o, ho, fun v q => by rw [hd] at q; cases q⟩
  keep := fun i h h' st k => by
    obtain ⟨⟨old, he⟩, hi, ne⟩ := st
    exact ⟨⟨old, k e (by simp) _ he⟩, hi.at fun o q => k it (by simp) o q, ne⟩
  item := by
    intro X hP hw hK calm i pins s σ H E I hf st hg
    subst hP hw hK
    obtain ⟨⟨old, he⟩, hit, ne⟩ := st
    obtain ⟨xs, x, hq, hx⟩ := hg
    obtain ⟨its, rv, isL, _⟩ := I.list hq
    obtain ⟨u, hu, ru⟩ := rv.get hx
    have hel : e < s.heap.objs.size := Heap.lt_size he
    have hil : it < s.heap.objs.size := by obtain ⟨_, q, _⟩ := hit; exact Heap.lt_size q
    have lt : i < its.toArray.size := by
      rw [List.size_toArray]
      exact (List.getElem?_eq_some_iff.mp hu).1
    have hA : X.A.in1.handled = none := I.ok.hd calm
    refine wpAny_pyNext_enum_itemC (PySem.Draws.list hA it a nai its.toArray) he ⟨hit, isL.isList⟩ lt ne (by simp only [List.mem_cons, List.not_mem_nil, or_false, not_or]; exact ⟨ne, nae.symm⟩) fun y g tk hy ho st' hT hsz hk => ?_
    obtain rfl : y = u := by
      have z : its[i]? = some y := by simpa using hy
      exact Option.some.inj (z.symm.trans hu)
    refine ⟨_, rfl, wpAny_letOwnedTupleGo_enum (s := { s with heap := g, toks := tk + 1 }) ho fun g2 he' sb => ?_⟩
    have hT2 : g2.get? s.heap.objs.size = some { cls := .type "tuple", data := .seq #[.int ((i + 1 : Nat) : Int) tk, y] } := (sb.2 _ (Nat.ne_of_gt hel)).trans hT
    have new : ObjOk X.prog X.w (upd H s.heap.objs.size (.tup [.int ((i + 1 : Nat) : Int), x])) g2 s.heap.objs.size (.tup [.int ((i + 1 : Nat) : Int), x]) :=
      ⟨by show 2 ≤ sizeLine; decide, [.int ((i + 1 : Nat) : Int) tk, y], .cons ⟨_, rfl⟩ (.cons ru .nil), ⟨_, hT2, rfl, _, rfl⟩⟩
    have I1 : Inv X pins σ (upd H s.heap.objs.size (.tup [.int ((i + 1 : Nat) : Int), x])) { s with heap := g2, toks := tk + 1 } :=
      I.turnedNew (ch := [e, it]) (fun b ob hb q => (sb.2 b (fun z => hb (by simp [z]))).trans (hk b ob (fun z => hb (by simp [z])) (fun z => hb (by simp [z])) q)) hf (Nat.le_refl _) new
    refine ⟨.ref s.heap.objs.size, _, I1, rfl, ⟨_, x, rfl, I.hok.fresh (Nat.le_refl _), rfl, fun ys hy => by rw [I.list_inj hy hq]; exact hx⟩, ⟨⟨y, ?_⟩, st'.1.at fun o q => (sb.2 it (Ne.symm ne)).trans q, ne⟩, fun b hb => ?_⟩
    · rw [show ((i + 1 + 1 : Nat) : Int) = ((i + 1 : Nat) : Int) + 1 by omega]
      exact he'
    · have lb : b < s.heap.objs.size := by
        rcases List.mem_cons.mp hb with z | z
        · rw [z]; exact hel
        · rw [List.mem_singleton.mp z]; exact hil
      rw [upd_ne (Nat.ne_of_lt lb)]
      exact (hf b hb).1
  done := by
    intro X hP hw hK calm i pins s σ H E I hf st hg
    subst hP hw hK
    obtain ⟨⟨old, he⟩, hit, ne⟩ := st
    obtain ⟨xs, hq, hx⟩ := hg
    obtain ⟨its, rv, isL, _⟩ := I.list hq
    obtain ⟨f0, f1, f2, f3, f4, f5⟩ := hf it (by simp)
    have hl := rv.length
    have hA : X.A.in1.handled = none := I.ok.hd calm
    have hn : its.toArray.size = i := by rw [List.size_toArray, ← hl]; exact hx.symm
    refine wpAny_pyNext_enum_endD (PySem.Draws.list hA it a nai its.toArray) he ⟨by rw [hn]; exact hit, isL.isList⟩ fun g eb => ⟨rfl, I.turned (t' := s.toks) (fun b o hb q => eb b o hb q) f0 f1 f3 f4 f5⟩
  self := fun A i s Q E st h => by
    obtain ⟨⟨_, he⟩, _⟩ := st
    exact wpAny_pyIter_enum he h
section
variable {M : Model} {A : Around} {E : Value → Shared → Prop} {s : Shared} {env : Env}
theorem callWith_type_kwB {pos : Pos} {id : String} {first : List Value} {args : List (Bool × Sem Value)} {keywords : List (Option Str × Sem Value)} {Q : Value → Shared → Prop}
    (hplain : args.any (·.1) = false) (hkw : keywords.any (·.1.isNone) = false)
    (h : wpAny M A (evalArgs (.type id) true args keywords) (fun a s₁ => wpAny M A (call (.type id) (first ++ a.pos) a.kw) Q E s₁) E s) :
    wpAny M A (callWith pos (.type id) first args keywords) Q E s := by
  unfold callWith
  refine wpAny_bind (wpAny_holding (wpAny_mono h (fun a s₁ h₁ => wpAny_bind (wpAny_standAt ?_)) fun _ _ x => x))
  simp only [hplain, hkw, Bool.or_false]
  refine wpAny_bind (wpAny_pure ?_)
  exact wpAny_bind (wpAny_mono h₁ (fun r s₂ hr => wpAny_bind (wpAny_holding (wpAny_point (wpAny_pure hr)))) fun _ _ x => x)
theorem callWith_typeK {pos : Pos} {id : String} {e : Expr} {rest : List Expr} {kws : List Keyword} {Q : Value → Shared → Prop}
    (h : wpAny M A (spliced (backTo pos (starEach (e :: rest) env))) (fun vs s₁ => wpAny M A (evalAll ((backToKw pos (keywordEach kws env)).map (·.2)))
      (fun kvs s₂ => wpAny M A (call (.type id) vs (((backToKw pos (keywordEach kws env)).filterMap (·.1)).zip kvs)) Q E s₂) E s₁) E s)
    (he : backTo pos (starEach (e :: rest) env) = (false, eval e env) :: backTo pos (starEach rest env) := by rfl)
    (hplain : (backTo pos (starEach (e :: rest) env)).any (·.1) = false := by rfl)
    (hall : (backToKw pos (keywordEach kws env)).all (·.1.isSome) = true := by rfl)
    (hkw : (backToKw pos (keywordEach kws env)).any (·.1.isNone) = false := by rfl) :
    wpAny M A (callWith pos (.type id) [] (backTo pos (starEach (e :: rest) env)) (backToKw pos (keywordEach kws env))) Q E s := by
  refine callWith_type_kwB hplain hkw ?_
  rw [he] at h ⊢
  exact evalArgs_kwB hall h
end
def iEnum1 (K : PySem.W.Frag) (ta : TA) (tk : TA) : TI := fun σ H R => ta σ H fun vs H1 => tk σ H1 fun zs H2 => ∃ a xs, vs = [.ref a] ∧ zs = [.int 1] ∧ SqL K H2 a xs ∧ R (It1 K a) H2
theorem pi_enum1 {X : Cx} {e ek : Expr} {ta tk : TA} {p pos tpos kp : Pos} {elts : List Expr} {kk : Nat} (hg : Gl X "enumerate") (hm : X.mg "enumerate" = none) (ha : PA X [e] ta) (hk : PK X [⟨some "start", ek, kp⟩] tk)
    (he : backTo pos (starEach [e] X.env) = (false, eval e X.env) :: backTo pos (starEach [] X.env) := by rfl) (hpl : (backTo pos (starEach [e] X.env)).any (·.1) = false := by rfl)
    (hall : (backToKw pos (keywordEach [⟨some "start", ek, kp⟩] X.env)).all (·.1.isSome) = true := by rfl) (hnone : (backToKw pos (keywordEach [⟨some "start", ek, kp⟩] X.env)).any (·.1.isNone) = false := by rfl)
    (hks : (backToKw pos (keywordEach [⟨some "start", ek, kp⟩] X.env)).filterMap (·.1) = [("start" : Str)] := by rfl) :
    PI X (.Tuple elts kk tpos) (.Call (.Name "enumerate" p) [e] [⟨some "start", ek, kp⟩] pos) (iEnum1 X.K ta tk) := by
  refine ⟨fun pins s σ H R I h => ?_⟩
  refine wpAny_Call_Name_kw (ld_blt I hg hm boot_enumerate ?_)
  refine callWith_typeK (thn (ha.run pos pins s σ H _ I h) fun us s1 ⟨vs, H1, I1, r1, q1⟩ => thn (hk.run pos pins s1 σ H1 _ I1 q1) fun ws z ⟨zs, H2, I2, r2, q2⟩ => ?_) he hpl hall hnone
  rw [hks]
  obtain ⟨a, xs, rfl, rfl, hq, q⟩ := q2
  obtain ⟨u, rfl, ru⟩ := r1.one
  cases ru
  obtain ⟨u2, rfl, ru2⟩ := r2.one
  obtain ⟨tk2, rfl⟩ : ∃ t, u2 = .int 1 t := by
    obtain ⟨t, e⟩ := ru2
    exact ⟨t, e⟩
  obtain ⟨its, rv, isL, _⟩ := I2.list hq
  have la : a < z.heap.objs.size := by
    obtain ⟨_, ho, _⟩ := isL.isList
    exact Heap.lt_size ho
  refine enum_begins_start (begins_list a its.toArray) isL.isList (by decide) (by decide) fun g he hit hsz hk' => wpAny_pyIter_enum he ?_
  have I3 : Inv X pins σ H2 { z with heap := g } := I2.kept (t' := z.toks) hk'
  refine ⟨z.heap.objs.size + 1, [z.heap.objs.size + 1, z.heap.objs.size], _, _, H2, rfl, I3, turn_enum1 a (z.heap.objs.size + 1) z.heap.objs.size (Nat.ne_of_lt (Nat.lt_succ_of_lt la)) (Nat.ne_of_lt la), ⟨⟨.none, he⟩, ⟨_, hit, rfl, rfl⟩, Nat.succ_ne_self _⟩, fun b hb => ?_, q⟩
  have le : z.heap.objs.size ≤ b := by
    rcases List.mem_cons.mp hb with e1 | e1
    · rw [e1]; exact Nat.le_succ _
    · rw [List.mem_singleton.mp e1]; exact Nat.le_refl _
  exact I2.fpOk le (I2.hok.fresh le)
/-- a loop over enumerate(list, start=1) -/
theorem for_enum1 {K : PySem.W.Frag} {a : Addr} {xs : List V} {g : TG} {tb : TS} {D : Ends} {σ : L2.St} {H : Hp} (Pv : Nat → L2.St → Hp → Prop) (h0 : Pv 0 σ H) (hq : ∀ i σ H, Pv i σ H → SqL K H a xs)
    (hs : ∀ (i : Nat) (x : V) (T : Addr) (σ : L2.St) (H : Hp), xs[i]? = some x → Pv i σ H → H T = none → g (.ref T) σ (upd H T (.tup [.int ((i + 1 : Nat) : Int), x])) fun σ2 H2 => tb { D with nx := Pv (i + 1), ct := Pv (i + 1), bk := D.nx } σ2 H2) (hd : ∀ σ H, Pv xs.length σ H → D.nx σ H) :
    ∃ W : Nat → Nat → L2.St → Hp → Prop, (∃ m, W 0 m σ H) ∧ ∀ i m σ H, W i m σ H →
      ((It1 K a).stop i H ∧ D.nx σ H) ∨ ((It1 K a).go i H ∧ ∃ N : L2.St → Hp → Prop, (∀ σ' H', N σ' H' → ∃ m', m' < m ∧ W (i + 1) m' σ' H') ∧ ∀ v H', (It1 K a).yld i H v H' → g v σ H' fun σ2 H2 => tb { D with nx := N, ct := N, bk := D.nx } σ2 H2) := by
  refine ⟨fun i m σ H => m = xs.length - i ∧ i ≤ xs.length ∧ Pv i σ H, ⟨xs.length, rfl, Nat.zero_le _, h0⟩, ?_⟩
  rintro i m σ H ⟨rfl, hi, p⟩
  have q := hq i σ H p
  by_cases lt : i < xs.length
  · refine .inr ⟨⟨xs, _, q, List.getElem?_eq_getElem lt⟩, Pv (i + 1), fun σ' H' p' => ⟨xs.length - (i + 1), by omega, rfl, lt, p'⟩, fun v H' y => ?_⟩
    obtain ⟨T, x, rfl, hT, rfl, f⟩ := y
    exact hs i x T σ H (f xs q) p hT
  · have e : i = xs.length := by omega
    subst e
    exact .inl ⟨⟨xs, q, rfl⟩, hd σ H p⟩
end Ml
namespace Ml
open PySem PySem.Spec PyProof.Rows L2
/-! values and what they are, place by place -/
def Als {α : Type} (R : V → α → Prop) (vs : List V) (xs : List α) : Prop := vs.length = xs.length ∧ ∀ (i : Nat) v x, vs[i]? = some v → xs[i]? = some x → R v x
theorem Als.nil {α : Type} {R : V → α → Prop} : Als R [] [] := ⟨rfl, fun i v x a _ => by simp at a⟩
theorem Als.append {α : Type} {R : V → α → Prop} {vs ws : List V} {xs ys : List α} (h : Als R vs xs) (g : Als R ws ys) : Als R (vs ++ ws) (xs ++ ys) := by
  refine ⟨by rw [List.length_append, List.length_append, h.1, g.1], fun i v x a b => ?_⟩
  by_cases hi : i < vs.length
  · rw [List.getElem?_append_left hi] at a
    rw [List.getElem?_append_left (by rw [← h.1]; exact hi)] at b
    exact h.2 i v x a b
  · rw [List.getElem?_append_right (by omega)] at a
    rw [List.getElem?_append_right (by rw [← h.1]; omega), ← h.1] at b
    exact g.2 _ v x a b
theorem Als.one {α : Type} {R : V → α → Prop} {v : V} {x : α} (h : R v x) : Als R [v] [x] := by
  refine ⟨rfl, fun i u y a b => ?_⟩
  cases i with
  | zero =>
    cases Option.some.inj a
    cases Option.some.inj b
    exact h
  | succ k => simp at a
theorem Als.snoc {α : Type} {R : V → α → Prop} {vs : List V} {xs : List α} {v : V} {x : α} (h : Als R vs xs) (q : R v x) : Als R (vs ++ [v]) (xs ++ [x]) := h.append (Als.one q)
theorem Als.mono {α : Type} {R R' : V → α → Prop} {vs : List V} {xs : List α} (h : Als R vs xs) (e : ∀ v x, R v x → R' v x) : Als R' vs xs := ⟨h.1, fun i v x a b => e v x (h.2 i v x a b)⟩
theorem Als.at {α : Type} {R : V → α → Prop} {vs : List V} {xs : List α} (h : Als R vs xs) {i : Nat} {v : V} (hv : vs[i]? = some v) : ∃ x, xs[i]? = some x ∧ R v x := by
  have hi : i < xs.length := by rw [← h.1]; exact (List.getElem?_eq_some_iff.mp hv).1
  exact ⟨xs[i], List.getElem?_eq_getElem hi, h.2 i v _ hv (List.getElem?_eq_getElem hi)⟩
theorem filt_take {α : Type} (g : α → Bool) {xs : List α} {i : Nat} {x : α} (h : xs[i]? = some x) : (xs.take (i + 1)).filter g = (xs.take i).filter g ++ (if g x = true then [x] else []) := by
  rw [List.take_add_one, h, List.filter_append]
  congr 1
  by_cases hg : g x = true
  · simp [hg]
  · simp [hg]
/-- all but one list stays -/
def Fr (fo : Addr) (H H' : Hp) : Prop := ∀ b o, H b = some o → b ≠ fo → H' b = some o
theorem Fr.refl (fo : Addr) (H : Hp) : Fr fo H H := fun _ _ h _ => h
theorem Fr.upd {fo : Addr} {H H1 : Hp} {o : HO} (a : Fr fo H H1) : Fr fo H (L2.upd H1 fo o) := fun c x h n => by
  rw [upd_ne n]
  exact a c x h n
theorem Fr.sqT {K : PySem.W.Frag} {fo : Addr} {H H' : Hp} {a : Addr} {xs ys : List V} (e : Fr fo H H') (hf : H fo = some (.lst ys)) (h : SqT K H a xs) : SqT K H' a xs := by
  rcases h with (q | ⟨o, q⟩) | q
  · exact .inl (.inl (e _ _ q (ne_of q hf (by intro z; cases z))))
  · exact .inl (.inr ⟨o, e _ _ q (ne_of q hf (by intro z; cases z))⟩)
  · exact .inr q
end Ml
namespace Ml
open PySem PySem.Spec PyProof.Rows L2
/-! ### trees of a nested table, as values -/
/-- the parts are told by items and levels -/
structure Can (t : List (List Int)) (S : List Nat) (l : Int) (Ss : List (List Nat)) : Prop where
  asc : S.Pairwise (· < ·)
  top : (∃ x ∈ S, ∃ y ∈ S, lev t x y = l) ∧ ∀ x ∈ S, ∀ y ∈ S, lev t x y ≤ l
  cls : ∀ P ∈ Ss, ∃ y ∈ S, P = S.filter fun x => decide (lev t y x < l)
  cov : ∀ x ∈ S, ∃ P ∈ Ss, x ∈ P
  ord : Ss.Pairwise fun a b => a.headD 0 < b.headD 0
structure NodeOk (t : List (List Int)) (S : List Nat) (l : Int) (Ss : List (List Nat)) : Prop where
  mem : ∀ x, x ∈ S ↔ ∃ P ∈ Ss, x ∈ P
  len : S.length = (Ss.map List.length).sum
  lt : ∀ P ∈ Ss, 0 < P.length ∧ P.length < S.length
  diff : ∀ x y, x ∈ S → y ∈ S → x ≠ y → (∀ P ∈ Ss, x ∈ P → y ∉ P) → lev t x y = l
  lv : LvOk l
  two : 2 ≤ S.length
  can : Can t S l Ss
inductive TrV (K : PySem.W.Frag) (H : Hp) (t : List (List Int)) : Nat → List Nat → V → Prop where
  | leaf (n i : Nat) (hi : i < 100) : TrV K H t n [i] (.int (i : Int))
  | node {n : Nat} {S : List Nat} {p : Addr} {l : Int} {vs : List V} {Ss : List (List Nat)} (h : SqT K H p (.int l :: vs)) (hl : vs.length = Ss.length)
      (hk : ∀ (k : Nat) v P, vs[k]? = some v → Ss[k]? = some P → TrV K H t n P v) (ok : NodeOk t S l Ss) : TrV K H t (n + 1) S (.ref p)
theorem TrV.same {K : PySem.W.Frag} {H H' : Hp} {t : List (List Int)} {n : Nat} {S : List Nat} {v : V} (h : TrV K H t n S v) (e : Sm H H') : TrV K H' t n S v := by
  induction h with
  | leaf n i hi => exact .leaf n i hi
  | node h hl _ ok ih => exact .node (e.sqT h) hl ih ok
theorem TrV.mono {K : PySem.W.Frag} {H : Hp} {t : List (List Int)} {n : Nat} {S : List Nat} {v : V} (h : TrV K H t n S v) : ∀ {m : Nat}, n ≤ m → TrV K H t m S v := by
  induction h with
  | leaf n i hi => exact fun _ => .leaf _ i hi
  | node h hl _ ok ih =>
    intro m hm
    obtain ⟨k, rfl⟩ : ∃ k, m = k + 1 := ⟨m - 1, by omega⟩
    exact .node h hl (fun j v P a b => ih j v P a b (by omega)) ok
theorem TrV.kp {K : PySem.W.Frag} {H H' : Hp} {t : List (List Int)} {n : Nat} {S : List Nat} {v : V} {d c r : Addr} {m : Nat} (h : TrV K H t n S v) (g : Dr H d c r m) (e : Kp d r H H') : TrV K H' t n S v := by
  induction h with
  | leaf n i hi => exact .leaf n i hi
  | node h hl _ ok ih => exact .node (g.kpT e h) hl ih ok
theorem TrV.upd {K : PySem.W.Frag} {H : Hp} {t : List (List Int)} {n : Nat} {S : List Nat} {v : V} {o : Addr} {us zs : List V} (h : TrV K H t n S v) (ho : H o = some (.lst us)) : TrV K (L2.upd H o (.lst zs)) t n S v := by
  induction h with
  | leaf n i hi => exact .leaf n i hi
  | node h hl _ ok ih => exact .node (sqT_upd ho h) hl ih ok
theorem TrV.pos {K : PySem.W.Frag} {H : Hp} {t : List (List Int)} {n : Nat} {S : List Nat} {v : V} (h : TrV K H t n S v) : 0 < S.length := by
  cases h with
  | leaf n i hi => exact Nat.zero_lt_one
  | node h hl hk ok =>
    have := ok.two
    omega
/-! ### as data -/
theorem shown_tup_le (ds : List PyData) : (PyData.shown (.tuple ds)).length ≤ ((PyData.shownAll ds).map (·.length)).sum + 2 * (PyData.shownAll ds).length + 3 := by
  have e := tupleText_len_le (PyData.shownAll ds)
  show (tupleText (PyData.shownAll ds)).length ≤ _
  omega
structure Good (n : Nat) (d : PyData) : Prop where
  sh : d.showable = true
  nd : d.hasDict = false
  dp : d.depth ≤ n
  ly : d.canLay0 = true
theorem good_int (n : Nat) {i : Int} (h : i.natAbs < 10 ^ 13) : Good n (.int i) := by
  have e : i.natAbs.log2 < 1920 := by
    have : i.natAbs < 2 ^ 64 := Nat.lt_of_lt_of_le h (by decide)
    exact Nat.lt_trans (PySem.Flt.log2_lt_of (by decide) this) (by decide)
  exact ⟨by simp [PyData.showable, e], by simp [PyData.hasDict], by simp [PyData.depth], by simp [PyData.canLay0]⟩
theorem kidsT {K : PySem.W.Frag} {H : Hp} {n : Nat} : ∀ {vs : List V} {Ss : List (List Nat)}, vs.length = Ss.length → (∀ (k : Nat) v P, vs[k]? = some v → Ss[k]? = some P → ∃ d, Dp K H v d ∧ Good n d ∧ d.shown.length + 25 ≤ 40 * P.length) →
    ∃ ds, DpAll K H vs ds ∧ PyData.showableAll ds = true ∧ PyData.hasDictAll ds = false ∧ PyData.depthAll ds ≤ n ∧ PyData.canLayAll0 ds = true ∧ ((PyData.shownAll ds).map (·.length)).sum + 25 * Ss.length ≤ 40 * (Ss.map List.length).sum ∧ (PyData.shownAll ds).length = Ss.length
  | [], [], _, _ => ⟨[], .nil, by simp [PyData.showableAll], by simp [PyData.hasDictAll], by simp [PyData.depthAll], by simp [PyData.canLayAll0], by simp [PyData.shownAll], by simp [PyData.shownAll]⟩
  | [], _ :: _, e, _ => by simp at e
  | _ :: _, [], e, _ => by simp at e
  | v :: vs, P :: Ss, e, h => by
    obtain ⟨d, d1, g, d2⟩ := h 0 v P rfl rfl
    obtain ⟨ds, a1, a2, a3, a4, a5, a6, a7⟩ := kidsT (vs := vs) (Ss := Ss) (by simpa using e) fun k u Q x y => h (k + 1) u Q (by simpa using x) (by simpa using y)
    refine ⟨d :: ds, .cons d1 a1, by simp [PyData.showableAll, g.sh, a2], by simp [PyData.hasDictAll, g.nd, a3], ?_, by simp [PyData.canLayAll0, g.ly, a5], ?_, by simp [PyData.shownAll, a7]⟩
    · simp only [PyData.depthAll]
      have := g.dp
      omega
    · simp only [PyData.shownAll, List.map_cons, List.sum_cons, List.length_cons]
      omega
theorem two_parts {t : List (List Int)} {S : List Nat} {l : Int} {Ss : List (List Nat)} (ok : NodeOk t S l Ss) : 2 ≤ Ss.length := by
  match Ss, ok with
  | [], ok =>
    have h1 := ok.len
    have h2 := ok.two
    rw [h1] at h2
    simp at h2
  | [P], ok =>
    have h1 := ok.len
    have h2 := (ok.lt P List.mem_cons_self).2
    simp at h1
    omega
  | _ :: _ :: _, _ => simp
theorem TrV.dp {K : PySem.W.Frag} {H : Hp} {t : List (List Int)} {n : Nat} {S : List Nat} {v : V} (h : TrV K H t n S v) : ∃ d, Dp K H v d ∧ Good n d ∧ d.shown.length + 25 ≤ 40 * S.length := by
  induction h with
  | leaf n i hi =>
    refine ⟨.int (i : Int), .int _, good_int n (by omega), ?_⟩
    have := shown_int14 (i := (i : Int)) (by omega)
    show _ ≤ 40 * 1
    omega
  | node h hl _ ok ih =>
    rename_i n S p l vs Ss hk
    obtain ⟨ds, a1, a2, a3, a4, a5, a6, a7⟩ := kidsT hl ih
    have lv := ok.lv
    have gl := good_int (n + 1) (i := l) (by unfold LvOk at lv; omega)
    refine ⟨.tuple (.int l :: ds), .tup h (.cons (.int l) a1), ⟨?_, ?_, ?_, ?_⟩, ?_⟩
    · have g := gl.sh
      simp only [PyData.showable, PyData.showableAll] at g ⊢
      rw [g, a2]
      rfl
    · simp [PyData.hasDict, PyData.hasDictAll, a3]
    · simp only [PyData.depth, PyData.depthAll]
      omega
    · simp [PyData.canLay0, PyData.canLayAll0, a5]
    · have e := shown_tup_le (.int l :: ds)
      have e1 := shown_int14 (i := l) (by unfold LvOk at lv; omega)
      have e2 := two_parts ok
      simp only [PyData.shownAll, List.map_cons, List.sum_cons, List.length_cons] at e
      have e3 := ok.len
      omega
/-! ### dividing items at their greatest level -/
structure Split (t : List (List Int)) (S : List Nat) (l : Int) (Ss : List (List Nat)) (L : List Nat) : Prop where
  nd : L.Nodup
  sub : ∀ x ∈ L, x ∈ S
  cov : ∀ x ∈ S, x ∈ L ∨ ∃ P ∈ Ss, x ∈ P
  dis : ∀ P ∈ Ss, ∀ x ∈ P, x ∈ S ∧ x ∉ L
  len : S.length = (Ss.map List.length).sum + L.length
  lt : ∀ P ∈ Ss, 0 < P.length ∧ P.length < S.length
  cross : ∀ P ∈ Ss, ∀ x ∈ P, ∀ y ∈ S, y ∉ P → lev t x y = l
  sasc : S.Pairwise (· < ·)
  lasc : L.Pairwise (· < ·)
  cls : ∀ P ∈ Ss, ∃ y ∈ S, P = S.filter fun x => decide (lev t y x < l)
  ord : Ss.Pairwise fun a b => a.headD 0 < b.headD 0
  low : ∀ P ∈ Ss, ∀ x ∈ L, P.headD 0 < x
theorem asc_nd {S : List Nat} (h : S.Pairwise (· < ·)) : S.Nodup := h.imp fun {a b} z e => by omega
theorem asc_eq {S T : List Nat} (h : S.Pairwise (· < ·)) (k : T.Pairwise (· < ·)) (e : ∀ x, x ∈ S ↔ x ∈ T) : S = T :=
  ((List.perm_ext_iff_of_nodup (asc_nd h) (asc_nd k)).mpr e).eq_of_pairwise (le := (· ≤ ·)) (fun a b _ _ x y => by omega) (h.imp fun {a b} z => by omega) (k.imp fun {a b} z => by omega)
theorem Split.start {t : List (List Int)} {S : List Nat} {l : Int} (asc : S.Pairwise (· < ·)) : Split t S l [] S :=
  ⟨asc_nd asc, fun _ h => h, fun _ h => .inl h, fun P h => by simp at h, by simp, fun P h => by simp at h, fun P h => by simp at h, asc, asc, fun P h => by simp at h, .nil, fun P h => by simp at h⟩
theorem filt_two {α : Type} (f : α → Bool) : ∀ L : List α, (L.filter f).length + (L.filter fun x => !f x).length = L.length
  | [] => rfl
  | a :: L => by
    have ih := filt_two f L
    by_cases h : f a = true
    · simp only [List.filter_cons, h, if_true, List.length_cons, Bool.not_true, Bool.false_eq_true, if_false]
      omega
    · have h' : f a = false := by cases e : f a <;> simp_all
      simp only [List.filter_cons, h', if_false, Bool.not_false, if_true, List.length_cons, Bool.false_eq_true]
      omega
def partOf (t : List (List Int)) (l : Int) (a : Nat) (L : List Nat) : List Nat := L.filter fun x => decide (lev t a x < l)
theorem Split.step {t : List (List Int)} {S : List Nat} {l : Int} {Ss : List (List Nat)} {a : Nat} {L : List Nat} (hU : Ultra t) (hS : ∀ x ∈ S, x < t.length) (l0 : 0 < l) (hmax : ∀ x ∈ S, ∀ y ∈ S, lev t x y ≤ l) (hz : ∃ x ∈ S, ∃ y ∈ S, lev t x y = l)
    (sp : Split t S l Ss (a :: L)) : Split t S l (Ss ++ [partOf t l a (a :: L)]) ((a :: L).filter fun x => !decide (x ∈ partOf t l a (a :: L))) := by
  have haS : a ∈ S := sp.sub a List.mem_cons_self
  have haP : a ∈ partOf t l a (a :: L) := List.mem_filter.mpr ⟨List.mem_cons_self, decide_eq_true (by rw [lev_self]; exact l0)⟩
  have headP : (partOf t l a (a :: L)).headD 0 = a := by
    unfold partOf
    rw [List.filter_cons, if_pos (decide_eq_true (by rw [lev_self]; exact l0))]
    rfl
  have inP : ∀ x, x ∈ partOf t l a (a :: L) ↔ x ∈ a :: L ∧ lev t a x < l := fun x => by
    unfold partOf
    rw [List.mem_filter, decide_eq_true_iff]
  have memL : ∀ x, x ∈ (a :: L).filter (fun x => !decide (x ∈ partOf t l a (a :: L))) ↔ x ∈ a :: L ∧ x ∉ partOf t l a (a :: L) := fun x => by
    rw [List.mem_filter]
    simp
  have new : ∀ x ∈ partOf t l a (a :: L), ∀ y ∈ S, y ∉ partOf t l a (a :: L) → lev t x y = l := fun x hx y hy hn => by
    obtain ⟨hx1, hx2⟩ := (inP x).mp hx
    have hxS := sp.sub x hx1
    rcases sp.cov y hy with h | ⟨P, hP, hyP⟩
    · have h3 : ¬ lev t a y < l := fun z => hn ((inP y).mpr ⟨h, z⟩)
      have u := hU a x y (hS a haS) (hS x hxS) (hS y hy)
      have m := hmax x hxS y hy
      omega
    · rw [lev_comm]
      exact sp.cross P hP y hyP x hxS fun z => (sp.dis P hP x z).2 hx1
  refine ⟨sp.nd.filter _, fun x hx => sp.sub x ((memL x).mp hx).1, fun x hx => ?_, fun P hP x hx => ?_, ?_, fun P hP => ?_, fun P hP x hx y hy hn => ?_, sp.sasc, sp.lasc.filter _, fun P hP => ?_, ?_, fun P hP x hx => ?_⟩
  · rcases sp.cov x hx with h | ⟨P, hP, h⟩
    · by_cases z : x ∈ partOf t l a (a :: L)
      · exact .inr ⟨_, List.mem_append_right _ (List.mem_singleton.mpr rfl), z⟩
      · exact .inl ((memL x).mpr ⟨h, z⟩)
    · exact .inr ⟨P, List.mem_append_left _ hP, h⟩
  · rcases List.mem_append.mp hP with hP | hP
    · obtain ⟨h1, h2⟩ := sp.dis P hP x hx
      exact ⟨h1, fun z => h2 ((memL x).mp z).1⟩
    · rw [List.mem_singleton.mp hP] at hx
      exact ⟨sp.sub x ((inP x).mp hx).1, fun z => ((memL x).mp z).2 hx⟩
  · have e1 := sp.len
    have e2 := filt_two (fun x => decide (lev t a x < l)) (a :: L)
    have e3 : (a :: L).filter (fun x => !decide (x ∈ partOf t l a (a :: L))) = (a :: L).filter (fun x => !decide (lev t a x < l)) := by
      refine List.filter_congr fun x hx => ?_
      congr 1
      rw [decide_eq_decide, inP x]
      exact ⟨fun z => z.2, fun z => ⟨hx, z⟩⟩
    rw [e3, List.map_append, List.sum_append]
    show _ = _ + ([(partOf t l a (a :: L)).length].sum) + _
    unfold partOf
    simp only [List.sum_cons, List.sum_nil]
    omega
  · rcases List.mem_append.mp hP with hP | hP
    · exact sp.lt P hP
    · rw [List.mem_singleton.mp hP]
      refine ⟨List.length_pos_of_mem haP, ?_⟩
      obtain ⟨x, hx, y, hy, e⟩ := hz
      have u := hU x a y (hS x hx) (hS a haS) (hS y hy)
      rw [lev_comm t x a] at u
      obtain ⟨z, hzS, hzP⟩ : ∃ z ∈ S, z ∉ partOf t l a (a :: L) := by
        by_cases q : lev t a x < l
        · exact ⟨y, hy, fun w => by have := ((inP y).mp w).2; omega⟩
        · exact ⟨x, hx, fun w => q ((inP x).mp w).2⟩
      have := List.Nodup.length_le_of_subset (l₁ := z :: partOf t l a (a :: L)) (l₂ := S) (List.nodup_cons.mpr ⟨hzP, sp.nd.filter _⟩) (fun w hw => by
        rcases List.mem_cons.mp hw with rfl | hw
        · exact hzS
        · exact sp.sub w ((inP w).mp hw).1)
      rw [List.length_cons] at this
      omega
  · rcases List.mem_append.mp hP with hP | hP
    · exact sp.cross P hP x hx y hy hn
    · rw [List.mem_singleton.mp hP] at hx hn
      exact new x hx y hy hn
  · rcases List.mem_append.mp hP with hP | hP
    · exact sp.cls P hP
    · rw [List.mem_singleton.mp hP]
      refine ⟨a, haS, asc_eq (sp.lasc.filter _) (sp.sasc.filter _) fun x => ?_⟩
      rw [inP x, List.mem_filter, decide_eq_true_iff]
      refine ⟨fun z => ⟨sp.sub x z.1, z.2⟩, fun z => ⟨?_, z.2⟩⟩
      rcases sp.cov x z.1 with q | ⟨P', hP', q⟩
      · exact q
      · have := sp.cross P' hP' x q a haS fun w => (sp.dis P' hP' a w).2 List.mem_cons_self
        rw [lev_comm] at this
        omega
  · refine List.pairwise_append.mpr ⟨sp.ord, List.pairwise_singleton _ _, fun P hP Q hQ => ?_⟩
    rw [List.mem_singleton.mp hQ, headP]
    exact sp.low P hP a List.mem_cons_self
  · have hxL := ((memL x).mp hx).1
    rcases List.mem_append.mp hP with hP | hP
    · exact sp.low P hP x hxL
    · rw [List.mem_singleton.mp hP, headP]
      rcases List.mem_cons.mp hxL with e | hxL
      · exact absurd (e ▸ haP) ((memL x).mp hx).2
      · exact (List.pairwise_cons.mp sp.lasc).1 x hxL
theorem Split.done {t : List (List Int)} {S : List Nat} {l : Int} {Ss : List (List Nat)} (sp : Split t S l Ss []) (hl : LvOk l) (h2 : 2 ≤ S.length) (hz : ∃ x ∈ S, ∃ y ∈ S, lev t x y = l) (hm : ∀ x ∈ S, ∀ y ∈ S, lev t x y ≤ l) : NodeOk t S l Ss := by
  have can : Can t S l Ss := ⟨sp.sasc, ⟨hz, hm⟩, sp.cls, fun x hx => (sp.cov x hx).resolve_left List.not_mem_nil, sp.ord⟩
  refine ⟨fun x => ⟨fun hx => ?_, fun ⟨P, hP, hx⟩ => (sp.dis P hP x hx).1⟩, by have := sp.len; simpa using this, sp.lt, fun x y hx hy hne hd => ?_, hl, h2, can⟩
  · rcases sp.cov x hx with h | h
    · simp at h
    · exact h
  · rcases sp.cov x hx with h | ⟨P, hP, hxP⟩
    · simp at h
    · exact sp.cross P hP x hxP y hy (hd P hP hxP)
/-- the greatest level from the first item is the greatest one -/
theorem top_all {t : List (List Int)} (hU : Ultra t) {S : List Nat} (hS : ∀ x ∈ S, x < t.length) {a : Nat} (ha : a ∈ S) {l : Int} (h : ∀ x ∈ S, lev t a x ≤ l) : ∀ x ∈ S, ∀ y ∈ S, lev t x y ≤ l := fun x hx y hy => by
  have u := hU x a y (hS x hx) (hS a ha) (hS y hy)
  rw [lev_comm t x a] at u
  have h1 := h x hx
  have h2 := h y hy
  omega
/-! ### one tree, told by levels and items -/
end Ml
namespace Ml
open PySem PySem.Spec PyProof.Rows L2
/-! ### written values: laid anew, at addresses that were free in H0 -/
mutual
inductive Fv (H0 H : Hp) : V → PyData → Prop
  | non : Fv H0 H .non .none
  | bl (b : Bool) : Fv H0 H (.bl b) (.bool b)
  | int (i : Int) : Fv H0 H (.int i) (.int i)
  | str (x : Str) : Fv H0 H (.str x) (.str x)
  | tup {a : Addr} {xs : List V} {ds : List PyData} : H a = some (.tup xs) → H0 a = none → FvAll H0 H xs ds → Fv H0 H (.ref a) (.tuple ds)
  | lst {a : Addr} {xs : List V} {ds : List PyData} : H a = some (.lst xs) → H0 a = none → FvAll H0 H xs ds → Fv H0 H (.ref a) (.list ds)
  | dct {a : Addr} : H a = some (.dK []) → H0 a = none → Fv H0 H (.ref a) (.dict [])
inductive FvAll (H0 H : Hp) : List V → List PyData → Prop
  | nil : FvAll H0 H [] []
  | cons {v : V} {vs : List V} {d : PyData} {ds : List PyData} : Fv H0 H v d → FvAll H0 H vs ds → FvAll H0 H (v :: vs) (d :: ds)
end
theorem FvAll.len {H0 H : Hp} : ∀ {ds : List PyData} {vs : List V}, FvAll H0 H vs ds → vs.length = ds.length
  | _, _, .nil => rfl
  | _, _, .cons _ b => by rw [List.length_cons, List.length_cons, b.len]
theorem FvAll.at {H0 H : Hp} : ∀ {ds : List PyData} {vs : List V}, FvAll H0 H vs ds → ∀ {i : Nat} {v : V}, vs[i]? = some v → ∃ d, ds[i]? = some d ∧ Fv H0 H v d
  | _, _, .nil, i, v, e => by simp at e
  | _, _, .cons a b, 0, v, e => by cases Option.some.inj e; exact ⟨_, rfl, a⟩
  | _, _, .cons a b, i + 1, v, e => FvAll.at b (i := i) (by simpa using e)
theorem FvAll.append {H0 H : Hp} : ∀ {ds es : List PyData} {vs us : List V}, FvAll H0 H vs ds → FvAll H0 H us es → FvAll H0 H (vs ++ us) (ds ++ es)
  | _, _, _, _, .nil, h => h
  | _, _, _, _, .cons a b, h => .cons a (FvAll.append b h)
/-! ### the readings of written values -/
end Ml
namespace Ml
open PySem PySem.Spec PyProof.Rows L2
/-! ### a tuple turned round; a tuple of data that has one -/
theorem turn_bounds (n : Nat) : Builtin.Slice.sliceAdjust none none (-1) (n : Int) = ((n : Int) - 1, -1) := by
  unfold Builtin.Slice.sliceAdjust
  simp only [show ((-1 : Int) < 0) from by decide, if_true]
theorem turn_places (n : Nat) : Builtin.Slice.slicePlaces ((n : Int) - 1) (-1) (-1) = n := by
  unfold Builtin.Slice.slicePlaces
  rw [if_neg (by decide)]
  by_cases h : (n : Int) - 1 > -1
  · rw [if_pos h, show (-(-1 : Int)) = 1 from rfl, Int.ediv_one]
    omega
  · rw [if_neg h]
    omega
theorem filt_map {α β : Type} {f : α → Option β} {g : α → β} : ∀ {l : List α}, (∀ x ∈ l, f x = some (g x)) → l.filterMap f = l.map g
  | [], _ => rfl
  | a :: l, h => by
    rw [List.filterMap_cons, h a (List.mem_cons_self ..), List.map_cons, filt_map fun x hx => h x (List.mem_cons_of_mem _ hx)]
theorem turn_pick (xs : Array Value) : ((List.range xs.size).filterMap fun (m : Nat) => xs[(((xs.size : Int) - 1) + (m : Int) * (-1)).toNat]?).toArray = xs.toList.reverse.toArray := by
  congr 1
  refine List.ext_getElem? fun i => ?_
  have e : (List.range xs.size).filterMap (fun (m : Nat) => xs[(((xs.size : Int) - 1) + (m : Int) * (-1)).toNat]?) = (List.range xs.size).map (fun m => xs.toList.getD (xs.size - 1 - m) .none) := by
    refine filt_map fun m hm => ?_
    have hm := List.mem_range.mp hm
    have z : (((xs.size : Int) - 1) + (m : Int) * (-1)).toNat = xs.size - 1 - m := by omega
    rw [z]
    rw [List.getD_eq_getElem?_getD, Array.getElem?_toList, Array.getElem?_eq_getElem (by omega)]
    rfl
  rw [e, List.getElem?_map]
  by_cases hi : i < xs.size
  · rw [List.getElem?_range hi, List.getElem?_reverse (by rw [Array.length_toList]; exact hi), Array.length_toList]
    show some (xs.toList.getD (xs.size - 1 - i) .none) = _
    rw [List.getD_eq_getElem?_getD, List.getElem?_eq_getElem (by rw [Array.length_toList]; omega)]
    rfl
  · rw [List.getElem?_eq_none (by rw [List.length_range]; omega), List.getElem?_eq_none (by rw [List.length_reverse, Array.length_toList]; omega)]
    rfl
section
variable {prog : Program} {w : World} {A : Around} {E : Value → Shared → Prop} {s : Shared}
theorem cut_turned {B : Around} {F : Value → Shared → Prop} {sl : Addr} {vl vu vs : Value} {n : Nat} {Q : Int × Int × Nat → Shared → Prop} (hs : s.heap.IsSliceOf sl vl vu vs) (pl : IsPart vl none) (pu : IsPart vu none) (ps : IsPart vs (some (-1))) (h : Q ((n : Int) - 1, -1, n) s) :
    wpAny (model prog w) B (Builtin.Slice.sliceApplied (.ref sl) (pure (n : Int))) Q F s := by
  obtain ⟨os, hos, hcs, hds⟩ := id hs
  unfold Builtin.Slice.sliceApplied Builtin.Slice.sliceFields
  refine wpAny_bind (wpAny_bind (wpAny_field hos hds (x := vl) rfl (wpAny_bind (wpAny_field hos hds (x := vu) rfl (wpAny_bind (wpAny_field hos hds (x := vs) rfl (wpAny_pure ?_)))))))
  refine wpAny_bind (HT.slicePart_ ps ?_)
  show wpAny _ _ (if ((-1 : Int) == 0) = true then _ else _) _ _ s
  rw [if_neg (by decide)]
  refine wpAny_bind (HT.slicePart_ pl (wpAny_bind (HT.slicePart_ pu (wpAny_bind (wpAny_pure ?_)))))
  show wpAny _ _ (match Builtin.Slice.sliceAdjust none none (-1) (n : Int) with | (lo, hi) => pure (lo, (-1 : Int), Builtin.Slice.slicePlaces lo hi (-1))) _ _ s
  rw [turn_bounds]
  show wpAny _ _ (pure ((n : Int) - 1, (-1 : Int), Builtin.Slice.slicePlaces ((n : Int) - 1) (-1) (-1))) _ _ s
  rw [turn_places]
  exact wpAny_pure h
theorem turned {t sl : Addr} {items : Array Value} {vl vu vs : Value} {Q : Value → Shared → Prop} (ht : PyProof.Rows.IsTup s.heap t items) (hs : s.heap.IsSliceOf sl vl vu vs) (pl : IsPart vl none) (pu : IsPart vu none) (ps : IsPart vs (some (-1)))
    (h : Q (.ref s.heap.objs.size) { s with heap := s.heap.push { cls := .type "tuple", data := .seq items.toList.reverse.toArray } }) (hsz : items.size ≤ sizeLine) : wpAny (model prog w) A (getItem (.ref t) (.ref sl)) Q E s := by
  have fits : sizeOk (.seq items.toList.reverse.toArray) := by
    show items.toList.reverse.toArray.size ≤ sizeLine
    rw [List.size_toArray, List.length_reverse, Array.length_toList]
    exact hsz
  obtain ⟨os, hos, hcs, hds⟩ := id hs
  have isS : s.TypeIs (.ref sl) "slice" := ⟨os, hos, hcs⟩
  have isT : s.TypeIs (.ref t) "tuple" := ht.typeIs
  unfold getItem
  try with_reducible refine wpAny_holding ?_
  first | refine wpAny_bind (wpAny_pure ?_) | skip
  refine wpAny_bind (wpAny_sequenceKey isT (by decide) ?_)
  refine wpAny_bind (wpAny_callSpecial?_slot (name := Str.ofString "__getitem__") isT PyProof.Rows.slot_tuple_getitem (wpAny_call_entry PyProof.Rows.slot_tuple_getitem isT entry_tuple_getitem ?_ (args_tuple_getitem _ _)))
  show wpAny _ _ (Builtin.Tuple.tupleItemsOf (.ref t) >>= _) _ _ s
  refine wpAny_bind (PyProof.Rows.tupleItemsOf_ ht ?_)
  refine wpAny_bind (wpAny_typeOf isS ?_)
  rw [if_pos (by decide)]
  refine wpAny_bind (cut_turned hs pl pu ps ?_)
  show wpAny _ _ (if (((items.size : Int) - 1 == 0) && ((-1 : Int) == 1) && (items.size == items.size)) = true then _ else _) _ _ s
  rw [if_neg (by simp), turn_pick]
  first
    | exact wpAny_bind (m := Builtin.Tuple.tupleExact _) (wpAny_newObj_type (wpAny_pure ⟨_, rfl, wpAny_pure h⟩) fits)
    | exact wpAny_bind (m := Builtin.Tuple.tupleExact _) (wpAny_newObj_type (wpAny_bind (wpAny_pure (wpAny_pure ⟨_, rfl, wpAny_pure h⟩))) fits)
    | exact wpAny_bind (wpAny_bind (m := Builtin.Tuple.tupleExact _) (wpAny_newObj_type (wpAny_pure (wpAny_pure ⟨_, rfl, wpAny_pure h⟩)) fits))
    | exact wpAny_bind (wpAny_bind (m := Builtin.Tuple.tupleExact _) (wpAny_newObj_type (wpAny_pure ⟨_, rfl, wpAny_pure h⟩) fits))
end
end Ml
namespace Ml
open PySem PySem.Spec PyProof.Rows L2
/-! ### enumerate in a comprehension -/
/-! ### ascending lists -/
/-! ### divisions -/
def rcL (t : List (List Int)) (i : Nat) (h : Int) : List Nat := (List.range t.length).filter fun k => decide (jn t i k < h)
theorem mem_rcL {t : List (List Int)} {i k : Nat} {h : Int} : k ∈ rcL t i h ↔ k < t.length ∧ jn t i k < h := by
  unfold rcL
  rw [List.mem_filter, List.mem_range, decide_eq_true_iff]
/-- a search by lower steps -/
structure Srch (t : List (List Int)) (i : Nat) (h : Int) (L : List Nat) (m : Nat) : Prop where
  nod : L.Nodup
  ini : i ∈ L
  ok : ∀ x ∈ L, x < t.length ∧ Wk (lev t) t.length (h - 1) i x
  cl : ∀ (q x : Nat), q < m → L[q]? = some x → ∀ k, k < t.length → lev t x k < h → k ∈ L
def nearL2 (t : List (List Int)) (x : Nat) (h : Int) : List Nat := (List.range t.length).filter fun k => decide (lev t x k < h)
def fresh (t : List (List Int)) (x : Nat) (h : Int) (L : List Nat) : List Nat := (nearL2 t x h).filter fun k => decide (k ∉ L)
theorem mem_fresh {t : List (List Int)} {x : Nat} {h : Int} {L : List Nat} {k : Nat} : k ∈ fresh t x h L ↔ k < t.length ∧ lev t x k < h ∧ k ∉ L := by
  unfold fresh nearL2
  rw [List.mem_filter, List.mem_filter, List.mem_range, decide_eq_true_iff, decide_eq_true_iff]
  constructor
  · rintro ⟨⟨a, b⟩, c⟩; exact ⟨a, b, c⟩
  · rintro ⟨a, b, c⟩; exact ⟨⟨a, b⟩, c⟩
theorem Srch.step {t : List (List Int)} {i : Nat} {h : Int} {L : List Nat} {m x : Nat} (S : Srch t i h L m) (hx : L[m]? = some x) : Srch t i h (L ++ fresh t x h L) (m + 1) := by
  have hm := (List.getElem?_eq_some_iff.mp hx).1
  have hxo := S.ok x (List.mem_of_getElem? hx)
  refine ⟨?_, List.mem_append_left _ S.ini, fun y hy => ?_, fun q y hq hy k hk hl => ?_⟩
  · rw [List.nodup_append]
    refine ⟨S.nod, (List.nodup_range.filter _).filter _, fun a ha b hb e => ?_⟩
    subst e
    exact (mem_fresh.mp hb).2.2 ha
  · rcases List.mem_append.mp hy with hy | hy
    · exact S.ok y hy
    · obtain ⟨a, b, c⟩ := mem_fresh.mp hy
      exact ⟨a, hxo.2.step hxo.1 a (by omega)⟩
  · by_cases hkL : k ∈ L
    · exact List.mem_append_left _ hkL
    · by_cases e : q = m
      · subst e
        rw [List.getElem?_append_left hm, hx] at hy
        cases Option.some.inj hy
        exact List.mem_append_right _ (mem_fresh.mpr ⟨hk, hl, hkL⟩)
      · rw [List.getElem?_append_left (by omega)] at hy
        exact absurd (S.cl q y (by omega) hy k hk hl) hkL
theorem Srch.done {t : List (List Int)} (hW : WT t) {i : Nat} {h : Int} {L : List Nat} (h1 : 1 ≤ h) (S : Srch t i h L L.length) (k : Nat) : k ∈ L ↔ k ∈ rcL t i h := by
  have hi := (S.ok i S.ini).1
  rw [mem_rcL]
  constructor
  · intro hk
    obtain ⟨a, b⟩ := S.ok k hk
    have := walk_jn hW hi (by omega) b
    exact ⟨a, by omega⟩
  · rintro ⟨a, b⟩
    have w := (jn_walk hW hi a).mono (show jn t i k ≤ h - 1 by omega)
    have key : ∀ {k : Nat}, Wk (lev t) t.length (h - 1) i k → k ∈ L := fun w => by
      induction w with
      | refl => exact S.ini
      | @step j k _ hj hk hl ih =>
        obtain ⟨q, hq, e⟩ := List.getElem_of_mem ih
        exact S.cl q j hq (by rw [List.getElem?_eq_getElem hq, e]) k hk (by omega)
    exact key w
theorem Srch.len {t : List (List Int)} {i : Nat} {h : Int} {L : List Nat} {m : Nat} (S : Srch t i h L m) : L.length ≤ t.length := nodup_len _ L S.nod fun x hx => (S.ok x hx).1
/-! ### widths -/
theorem cross {f : Nat → Nat → Int} {n : Nat} {h : Int} {i j : Nat} {S : Nat → Prop} (w : Wk f n h i j) (hi : S i) (hj : ¬ S j) : ∃ a b, a < n ∧ b < n ∧ S a ∧ ¬ S b ∧ f a b ≤ h := by
  induction w with
  | refl => exact absurd hi hj
  | @step j k _ a b c ih =>
    by_cases e : S j
    · exact ⟨j, k, a, b, e, hj, c⟩
    · exact ih e
end Ml
namespace Ml
open PySem PySem.Spec PyProof.Rows L2
/-! ### one level replaced -/
def wL (t : List (List Int)) (a b : Nat) (x : Int) : List (List Int) := t.set (max a b) ((t.getD (max a b) []).set (min a b) x)
/-- the detour -/
def dt (t : List (List Int)) (a b : Nat) : Int := jn (wL t a b 1000000000000) a b
end Ml
namespace Ml
open PySem PySem.Spec PyProof.Rows L2
/-! ### the nested table below a table -/
/-! ### tables made place by place -/
/-! ### other names -/
abbrev oA (os : List Nat) (i : Nat) : Nat := os.getD i 0
structure Orr (os : List Nat) (n : Nat) : Prop where
  len : os.length = n
  lt : ∀ i, i < n → oA os i < n
  inj : ∀ i j, i < n → j < n → oA os i = oA os j → i = j
  sur : ∀ x, x < n → ∃ i, i < n ∧ oA os i = x
theorem Orr.of {os : List Nat} {n : Nat} (h : os.Perm (List.range n)) : Orr os n := by
  have hl := h.length_eq
  rw [List.length_range] at hl
  have nd : os.Nodup := h.nodup_iff.mpr List.nodup_range
  have at_ : ∀ i, (hi : i < n) → oA os i = os[i]'(by omega) := fun i hi => by
    unfold oA
    rw [List.getD_eq_getElem?_getD, List.getElem?_eq_getElem (by omega)]
    rfl
  refine ⟨hl, fun i hi => ?_, fun i j hi hj e => ?_, fun x hx => ?_⟩
  · rw [at_ i hi]
    exact List.mem_range.mp (h.mem_iff.mp (List.getElem_mem _))
  · rw [at_ i hi, at_ j hj] at e
    have pw := List.pairwise_iff_getElem.mp nd
    rcases Nat.lt_trichotomy i j with z | z | z
    · exact absurd e (pw i j (by omega) (by omega) z)
    · exact z
    · exact absurd e.symm (pw j i (by omega) (by omega) z)
  · obtain ⟨i, hi, e⟩ := List.getElem_of_mem (h.mem_iff.mpr (List.mem_range.mpr hx))
    exact ⟨i, by omega, by rw [at_ i (by omega), e]⟩
/-! ### other levels in the same order -/
/-! ### planted tables -/
inductive EW (E : List (Nat × Nat)) (f : Nat → Nat → Int) (h : Int) (i : Nat) : Nat → Prop
  | refl : EW E f h i i
  | step {j k : Nat} : EW E f h i j → ((j, k) ∈ E ∨ (k, j) ∈ E) → f j k ≤ h → EW E f h i k
theorem EW.mono {E E' : List (Nat × Nat)} {f f' : Nat → Nat → Int} {h h' : Int} {i j : Nat} (w : EW E f h i j) (hE : ∀ e ∈ E, e ∈ E') (hf : ∀ a b, (a, b) ∈ E ∨ (b, a) ∈ E → f' a b = f a b) (hh : h ≤ h') : EW E' f' h' i j := by
  induction w with
  | refl => exact .refl
  | @step a b _ e hs ih =>
    refine ih.step (e.elim (fun z => .inl (hE _ z)) (fun z => .inr (hE _ z))) ?_
    rw [hf a b e]
    omega
structure Plant (t : List (List Int)) (E : List (Nat × Nat)) : Prop where
  wt : WT t
  ult : Ultra t
  ed : ∀ a b, (a, b) ∈ E → a < b ∧ b < t.length
  wk : ∀ i j, i < t.length → j < t.length → EW E (lev t) (lev t i j) i j
theorem Plant.one : Plant [[]] [] := by
  refine ⟨WT.nil.snoc rfl (fun x hx => by simp at hx), fun i j k hi hj hk => ?_, fun a b h => by simp at h, fun i j hi hj => ?_⟩
  · have h1 : i = 0 := by simp at hi; exact hi
    have h2 : j = 0 := by simp at hj; exact hj
    have h3 : k = 0 := by simp at hk; exact hk
    subst h1 h2 h3
    rw [lev_self]
    omega
  · have h1 : i = 0 := by simp at hi; exact hi
    have h2 : j = 0 := by simp at hj; exact hj
    subst h1 h2
    exact .refl
end Ml
namespace Ml
open PySem PySem.Spec PyProof.Rows L2
/-! ### new lists lie past the interpreter's own cells -/
/-! ### values of any kind -/
mutual
inductive Da (K : PySem.W.Frag) (ok : Addr → Prop) (H : Hp) : V → PyData → Prop
  | non : Da K ok H .non .none
  | bl (b : Bool) : Da K ok H (.bl b) (.bool b)
  | int (i : Int) : Da K ok H (.int i) (.int i)
  | str (x : Str) : Da K ok H (.str x) (.str x)
  | lst {a : Addr} {xs : List V} {ds : List PyData} : H a = some (.lst xs) → ok a → a ≠ sysModules → DaAll K ok H xs ds → Da K ok H (.ref a) (.list ds)
  | tup {a : Addr} {xs : List V} {ds : List PyData} : SqT K H a xs → DaAll K ok H xs ds → Da K ok H (.ref a) (.tuple ds)
  | dct {a : Addr} : H a = some (.dK []) → ok a → Da K ok H (.ref a) (.dict [])
inductive DaAll (K : PySem.W.Frag) (ok : Addr → Prop) (H : Hp) : List V → List PyData → Prop
  | nil : DaAll K ok H [] []
  | cons {v : V} {vs : List V} {d : PyData} {ds : List PyData} : Da K ok H v d → DaAll K ok H vs ds → DaAll K ok H (v :: vs) (d :: ds)
end
section
variable {K : PySem.W.Frag} {ok : Addr → Prop} {H H' : Hp}
mutual
theorem Da.to (e1 : ∀ a o, H a = some o → ok a → H' a = some o) (e2 : ∀ a xs, SqT K H a xs → SqT K H' a xs) : ∀ {d : PyData} {v : V}, Da K ok H v d → Da K ok H' v d
  | _, _, .non => .non
  | _, _, .bl b => .bl b
  | _, _, .int i => .int i
  | _, _, .str x => .str x
  | _, _, .lst h o n g => .lst (e1 _ _ h o) o n (DaAll.to e1 e2 g)
  | _, _, .tup h g => .tup (e2 _ _ h) (DaAll.to e1 e2 g)
  | _, _, .dct h o => .dct (e1 _ _ h o) o
theorem DaAll.to (e1 : ∀ a o, H a = some o → ok a → H' a = some o) (e2 : ∀ a xs, SqT K H a xs → SqT K H' a xs) : ∀ {ds : List PyData} {vs : List V}, DaAll K ok H vs ds → DaAll K ok H' vs ds
  | _, _, .nil => .nil
  | _, _, .cons a b => .cons (Da.to e1 e2 a) (DaAll.to e1 e2 b)
end
theorem Da.same {d : PyData} {v : V} (h : Da K ok H v d) (e : Sm H H') : Da K ok H' v d := h.to (fun a o h _ => e a o h) fun a xs h => e.sqT h
theorem DaAll.same {ds : List PyData} {vs : List V} (h : DaAll K ok H vs ds) (e : Sm H H') : DaAll K ok H' vs ds := h.to (fun a o h _ => e a o h) fun a xs h => e.sqT h
theorem Da.kp {d c r : Addr} {n : Nat} {x : PyData} {v : V} (h : Da K ok H v x) (hok : ∀ a, ok a → a ≠ d ∧ a ≠ r) (D : Dr H d c r n) (e : Kp d r H H') : Da K ok H' v x :=
  h.to (fun a o h o' => e a o h (hok a o').1 (hok a o').2) fun a xs h => D.kpT e h
theorem DaAll.kp {d c r : Addr} {n : Nat} {ds : List PyData} {vs : List V} (h : DaAll K ok H vs ds) (hok : ∀ a, ok a → a ≠ d ∧ a ≠ r) (D : Dr H d c r n) (e : Kp d r H H') : DaAll K ok H' vs ds :=
  h.to (fun a o h o' => e a o h (hok a o').1 (hok a o').2) fun a xs h => D.kpT e h
theorem DaAll.len : ∀ {ds : List PyData} {vs : List V}, DaAll K ok H vs ds → vs.length = ds.length
  | _, _, .nil => rfl
  | _, _, .cons _ b => by rw [List.length_cons, List.length_cons, b.len]
theorem DaAll.at : ∀ {ds : List PyData} {vs : List V}, DaAll K ok H vs ds → ∀ {i : Nat} {v : V}, vs[i]? = some v → ∃ d, ds[i]? = some d ∧ Da K ok H v d
  | _, _, .nil, i, v, e => by simp at e
  | _, _, .cons a b, 0, v, e => by cases Option.some.inj e; exact ⟨_, rfl, a⟩
  | _, _, .cons a b, i + 1, v, e => DaAll.at b (i := i) (by simpa using e)
theorem DaAll.append : ∀ {ds es : List PyData} {vs us : List V}, DaAll K ok H vs ds → DaAll K ok H us es → DaAll K ok H (vs ++ us) (ds ++ es)
  | _, _, _, _, .nil, h => h
  | _, _, _, _, .cons a b, h => .cons a (DaAll.append b h)
theorem DaAll.take : ∀ (k : Nat) {ds : List PyData} {vs : List V}, DaAll K ok H vs ds → DaAll K ok H (vs.take k) (ds.take k)
  | 0, _, _, _ => by rw [List.take_zero, List.take_zero]; exact .nil
  | k + 1, _, _, .nil => .nil
  | k + 1, _, _, .cons a b => .cons a (DaAll.take k b)
theorem DaAll.drop : ∀ (k : Nat) {ds : List PyData} {vs : List V}, DaAll K ok H vs ds → DaAll K ok H (vs.drop k) (ds.drop k)
  | 0, _, _, h => h
  | k + 1, _, _, .nil => .nil
  | k + 1, _, _, .cons a b => DaAll.drop k b
theorem DaAll.one {v : V} {d : PyData} (h : Da K ok H v d) : DaAll K ok H [v] [d] := .cons h .nil
theorem da_ints : ∀ ns : List Int, DaAll K ok H (ns.map V.int) (ns.map PyData.int)
  | [] => .nil
  | n :: ns => .cons (.int n) (da_ints ns)
theorem IT.da {v : V} {ns : List Int} (h : IT K H v ns) : Da K ok H v (rowD ns) := by
  obtain ⟨p, rfl, hs⟩ := h
  exact .tup hs (da_ints ns)
theorem rows_da : ∀ {vs : List V} {t : List (List Int)}, Rows K H vs t → DaAll K ok H vs (t.map rowD)
  | [], [], _ => .nil
  | [], _ :: _, h => by have := h.1; simp at this
  | _ :: _, [], h => by have := h.1; simp at this
  | v :: vs, ns :: t, h => by
    refine .cons (h.2 0 v ns rfl rfl).da (rows_da (vs := vs) (t := t) ⟨by have := h.1; simpa using this, fun i u ms a b => h.2 (i + 1) u ms (by simpa using a) (by simpa using b)⟩)
theorem TT.da {v : V} {t : List (List Int)} (h : TT K H v t) : Da K ok H v (tabD t) := by
  obtain ⟨p, vs, rfl, hs, hR⟩ := h
  exact .tup hs (rows_da hR)
theorem Da.ty {d : PyData} {v : V} (h : Da K ok H v d) : TyX K H v (.type (tyN d)) := by
  cases h with
  | non => exact .base .non
  | bl b => exact .base (.bl b)
  | int i => exact .base (.int i)
  | str x => exact .base (.str x)
  | lst h _ _ _ => exact .base (.lst h)
  | tup h _ => exact ty_tup h
  | dct h _ => exact .base (.dK h)
end
/-! ### their texts -/
mutual
theorem Da.reads {X : Cx} {pins : List (Addr × Obj)} {σ : L2.St} {H : Hp} {s : Shared} {ok : Addr → Prop} (I : L2.Inv X pins σ H s) : ∀ {d : PyData} {v : V}, Da X.K ok H v d → ∀ {u : Value}, RelV v u → ∃ as, Reads s.heap u d as ∧ sysModules ∉ as
  | _, _, .non, u, r => by cases r; exact ⟨_, .none, by simp⟩
  | _, _, .bl b, u, r => by cases r; exact ⟨_, .bool b, by simp⟩
  | _, _, .int i, u, r => by obtain ⟨t, rfl⟩ := r; exact ⟨_, .int i t, by simp⟩
  | _, _, .str x, u, r => by obtain ⟨t, rfl⟩ := r; exact ⟨_, .str x t, by simp⟩
  | _, _, .lst (a := a) h o n g, u, r => by
    cases r
    obtain ⟨_, its, m, r', e⟩ := I.hok _ _ h
    obtain ⟨as, ra, na⟩ := DaAll.reads I g r'
    exact ⟨a :: as, .list e rfl rfl (by simpa using ra), fun z => by rcases List.mem_cons.mp z with z | z; exact n z.symm; exact na z⟩
  | _, _, .tup h g, u, r => by
    cases r
    obtain ⟨its, r', ⟨o, ho, hc, m, hd⟩, _⟩ := I.tuple h
    obtain ⟨as, ra, na⟩ := DaAll.reads I g r'
    exact ⟨as, .tuple ho hc hd (by simpa using ra), na⟩
  | _, _, .dct (a := a) h _, u, r => by
    cases r
    obtain ⟨_, hn, vs, kv, o, es, ep, ho, hx, hd, hk, hp, _⟩ := I.hok _ _ h
    cases kv
    have he : es.toList = [] := by cases z : es.toList with | nil => rfl | cons x l => rw [z] at hp; cases hp
    refine ⟨a :: ([] ++ []), .dict (kvs := []) ho hx.1 hd (by rw [he]; exact .nil) (by rw [he]; exact .nil), fun z => ?_⟩
    rcases List.mem_cons.mp z with z | z
    · rw [← z] at hn
      simp at hn
    · simp at z
theorem DaAll.reads {X : Cx} {pins : List (Addr × Obj)} {σ : L2.St} {H : Hp} {s : Shared} {ok : Addr → Prop} (I : L2.Inv X pins σ H s) : ∀ {ds : List PyData} {vs : List V}, DaAll X.K ok H vs ds → ∀ {us : List Value}, Vals vs us → ∃ as, ReadsAll s.heap us ds as ∧ sysModules ∉ as
  | _, _, .nil, us, r => by cases r; exact ⟨_, .nil, by simp⟩
  | _, _, .cons a b, us, r => by
    cases r with
    | cons r1 r2 =>
      obtain ⟨as, ra, na⟩ := Da.reads I a r1
      obtain ⟨bs, rb, nb⟩ := DaAll.reads I b r2
      exact ⟨as ++ bs, .cons ra rb, fun z => by rcases List.mem_append.mp z with z | z; exact na z; exact nb z⟩
end
end Ml
namespace Ml
open PySem PySem.Spec PyProof.Rows L2
/-! ### repr of a value of any kind -/
def rReprA (K : PySem.W.Frag) (ok : Addr → Prop) : List V → Hp → VK → Prop := fun vs H Q => ∃ (v : V) (d : PyData), vs = [v] ∧ Da K ok H v d ∧ d.showable = true ∧ d.depth ≤ 30 ∧ d.shown.length ≤ sizeLine ∧ Q (.str d.shown) H
theorem cr_reprA {X : Cx} {ok : Addr → Prop} {k : Nat} (hg : X.A.guards = some []) (hr : Room k X.A) : CallR X (.builtin "repr") (rReprA X.K ok) := by
  intro pins s σ H xs us Q I rxs h
  obtain ⟨v, d, rfl, hd, sh, dp, sz, q⟩ := h
  obtain ⟨u, rfl, ru⟩ := rxs.one
  have hu := hr.units
  have hrd := hd.reads I ru
  have byref : ∀ a, v = .ref a → wpAny (model X.prog X.w) X.A (call (.builtin "repr") [u]) (EP X pins σ Q) X.xe s := fun a e => by
    subst e
    cases ru
    obtain ⟨as, rd, na⟩ := hrd
    exact repr_of_reads' rd sh (fun _ => na) hg (by omega) (fun _ _ e => e) (fun g t tk keep => ⟨.str d.shown, H, I.kept (t' := tk) keep, ⟨t, rfl⟩, q⟩) sz
  cases hd with
  | non => cases ru; exact PySem.P.repr_of_none ⟨.str "None", H, I.tok _, ⟨_, rfl⟩, q⟩
  | bl b =>
    cases ru
    refine PySem.P.repr_of_bool ⟨.str (if b then "True" else "False"), H, I.tok _, ⟨_, rfl⟩, ?_⟩
    cases b <;> exact q
  | int i =>
    obtain ⟨t, rfl⟩ := ru
    refine PySem.P.repr_of_int (by simpa [PyData.showable] using sh) ⟨.str (Str.ofString (toString i)), H, I.tok _, ⟨_, rfl⟩, q⟩
  | str x =>
    obtain ⟨t, rfl⟩ := ru
    have e : PyData.shown (.str x) = reprText x := by simp [PyData.shown]
    rw [e] at q sz
    exact PySem.P.repr_of_str ⟨.str (reprText x), H, I.tok _, ⟨_, rfl⟩, q⟩ sz
  | lst h o n g => exact byref _ rfl
  | tup h g => exact byref _ rfl
  | dct h o => exact byref _ rfl
/-! ### how large values are -/
mutual
def wt : PyData → Nat
  | .none => 4
  | .bool _ => 5
  | .int _ => 45
  | .str x => (reprText x).length
  | .list ds => wtAll ds + 3
  | .tuple ds => wtAll ds + 3
  | .dict _ => 5
def wtAll : List PyData → Nat
  | [] => 0
  | d :: ds => wt d + 2 + wtAll ds
end
/-- ints up to B, at most n deep -/
def Sz (B : Nat) : Nat → PyData → Prop
  | _, .none => True
  | _, .bool _ => True
  | _, .int i => i.natAbs ≤ B
  | _, .str x => True
  | n + 1, .list ds => ∀ d ∈ ds, Sz B n d
  | n + 1, .tuple ds => ∀ d ∈ ds, Sz B n d
  | n + 1, .dict [] => True
  | _, _ => False
theorem Sz.mono {B C : Nat} (hB : B ≤ C) : ∀ {n m : Nat} {d : PyData}, n ≤ m → Sz B n d → Sz C m d
  | n, m, .none, _, _ => by cases m <;> exact trivial
  | n, m, .bool _, _, _ => by cases m <;> exact trivial
  | n, m, .int i, _, h => by
    have h' : i.natAbs ≤ B := by cases n <;> exact h
    have : i.natAbs ≤ C := Nat.le_trans h' hB
    cases m <;> exact this
  | n, m, .str x, _, h => by cases m <;> exact trivial
  | 0, m, .list ds, _, h => h.elim
  | 0, m, .tuple ds, _, h => h.elim
  | 0, m, .dict [], _, h => h.elim
  | 0, m, .dict (_ :: _), _, h => h.elim
  | n + 1, m + 1, .list ds, hm, h => fun d hd => Sz.mono hB (by omega) (h d hd)
  | n + 1, m + 1, .tuple ds, hm, h => fun d hd => Sz.mono hB (by omega) (h d hd)
  | n + 1, m + 1, .dict [], _, h => trivial
  | n + 1, m + 1, .dict (_ :: _), _, h => h.elim
  | n + 1, 0, _, hm, _ => absurd hm (by omega)
theorem Sz.int {B : Nat} {n : Nat} {i : Int} (h : i.natAbs ≤ B) : Sz B n (.int i) := by cases n <;> exact h
theorem Sz.int' {B : Nat} {n : Nat} {i : Int} (h : Sz B n (.int i)) : i.natAbs ≤ B := by cases n <;> exact h
theorem Sz.bool {B : Nat} {n : Nat} (b : Bool) : Sz B n (.bool b) := by cases n <;> exact trivial
theorem Sz.none {B : Nat} {n : Nat} : Sz B n .none := by cases n <;> exact trivial
theorem Sz.str {B : Nat} {n : Nat} {x : Str} : Sz B n (.str x) := by cases n <;> exact trivial
theorem sz_depthAll {B n : Nat} (ih : ∀ d, Sz B n d → d.depth ≤ n) : ∀ ds : List PyData, (∀ d ∈ ds, Sz B n d) → PyData.depthAll ds ≤ n
  | [], _ => by simp [PyData.depthAll]
  | d :: ds, h => by
    have h1 := ih d (h d List.mem_cons_self)
    have h2 := sz_depthAll ih ds fun e he => h e (List.mem_cons_of_mem _ he)
    simp only [PyData.depthAll]
    omega
theorem Sz.depth {B : Nat} : ∀ {n : Nat} (d : PyData), Sz B n d → d.depth ≤ n
  | n, .none, _ => by simp [PyData.depth]
  | n, .bool _, _ => by simp [PyData.depth]
  | n, .int _, _ => by simp [PyData.depth]
  | n, .str _, _ => by simp [PyData.depth]
  | 0, .list ds, h => h.elim
  | 0, .tuple ds, h => h.elim
  | 0, .dict [], h => h.elim
  | 0, .dict (_ :: _), h => h.elim
  | n + 1, .list ds, h => by
    have := sz_depthAll (fun d => Sz.depth d) ds h
    simp only [PyData.depth]
    omega
  | n + 1, .tuple ds, h => by
    have := sz_depthAll (fun d => Sz.depth d) ds h
    simp only [PyData.depth]
    omega
  | n + 1, .dict [], _ => Nat.le_trans (by decide +kernel : PyData.depth (.dict []) ≤ 1) (by omega)
  | n + 1, .dict (_ :: _), h => h.elim
theorem log_small {i : Int} (h : i.natAbs < 10 ^ 40) : i.natAbs.log2 < 1920 := by
  have : i.natAbs < 2 ^ 150 := Nat.lt_of_lt_of_le h (by decide)
  exact Nat.lt_trans (PySem.Flt.log2_lt_of (by decide) this) (by decide)
theorem sz_showAll {B n : Nat} (ih : ∀ d, Sz B n d → d.showable = true) : ∀ ds : List PyData, (∀ d ∈ ds, Sz B n d) → PyData.showableAll ds = true
  | [], _ => by simp [PyData.showableAll]
  | d :: ds, h => by
    have h1 := ih d (h d List.mem_cons_self)
    have h2 := sz_showAll ih ds fun e he => h e (List.mem_cons_of_mem _ he)
    simp [PyData.showableAll, h1, h2]
theorem Sz.show {B : Nat} (hB : B < 10 ^ 40) : ∀ {n : Nat} (d : PyData), Sz B n d → d.showable = true
  | n, .none, _ => by simp [PyData.showable]
  | n, .bool _, _ => by simp [PyData.showable]
  | n, .int i, h => by
    have := log_small (i := i) (Nat.lt_of_le_of_lt h.int' hB)
    simp [PyData.showable, this]
  | n, .str _, _ => by simp [PyData.showable]
  | 0, .list ds, h => h.elim
  | 0, .tuple ds, h => h.elim
  | 0, .dict [], h => h.elim
  | 0, .dict (_ :: _), h => h.elim
  | n + 1, .list ds, h => by
    have := sz_showAll (fun d => Sz.show hB d) ds h
    simp only [PyData.showable]
    exact this
  | n + 1, .tuple ds, h => by
    have := sz_showAll (fun d => Sz.show hB d) ds h
    simp only [PyData.showable]
    exact this
  | n + 1, .dict [], _ => (by decide +kernel : PyData.showable (.dict []) = true)
  | n + 1, .dict (_ :: _), h => h.elim
theorem sz_textAll {B n : Nat} (ih : ∀ d, Sz B n d → d.shown.length ≤ wt d) : ∀ ds : List PyData, (∀ d ∈ ds, Sz B n d) → ((PyData.shownAll ds).map fun x => x.length).sum + 2 * (PyData.shownAll ds).length ≤ wtAll ds
  | [], _ => by simp [PyData.shownAll, wtAll]
  | d :: ds, h => by
    have h1 := ih d (h d List.mem_cons_self)
    have h2 := sz_textAll ih ds fun e he => h e (List.mem_cons_of_mem _ he)
    simp only [PyData.shownAll, wtAll, List.map_cons, List.sum_cons, List.length_cons]
    omega
theorem Sz.text {B : Nat} (hB : B < 10 ^ 40) : ∀ {n : Nat} (d : PyData), Sz B n d → d.shown.length ≤ wt d
  | n, .none, _ => (by decide +kernel : (PyData.shown .none).length ≤ 4)
  | n, .bool true, _ => (by decide +kernel : (PyData.shown (.bool true)).length ≤ 5)
  | n, .bool false, _ => (by decide +kernel : (PyData.shown (.bool false)).length ≤ 5)
  | n, .int i, h => by
    have e := int_text_length_le10 (k := 40) (by decide) (Nat.lt_of_le_of_lt h.int' hB)
    show (Str.ofString (toString i)).length ≤ 45
    rw [PySem.ofString_length]
    omega
  | n, .str x, _ => by simp [PyData.shown, wt]
  | 0, .list ds, h => h.elim
  | 0, .tuple ds, h => h.elim
  | 0, .dict [], h => h.elim
  | 0, .dict (_ :: _), h => h.elim
  | n + 1, .list ds, h => by
    have e := listText_len_le (PyData.shownAll ds)
    have := sz_textAll (fun d => Sz.text hB d) ds h
    show (listText (PyData.shownAll ds)).length ≤ _
    simp only [wt]
    omega
  | n + 1, .tuple ds, h => by
    have e := tupleText_len_le (PyData.shownAll ds)
    have := sz_textAll (fun d => Sz.text hB d) ds h
    show (tupleText (PyData.shownAll ds)).length ≤ _
    simp only [wt]
    omega
  | n + 1, .dict [], _ => (by decide +kernel : (PyData.shown (.dict [])).length ≤ 5)
  | n + 1, .dict (_ :: _), h => h.elim
/-! ### a tuple that is not empty -/
end Ml
namespace Ml
open PySem PySem.Spec PyProof.Rows L2
/-! ### written values: laid anew, at addresses that were free in H0 -/
mutual
inductive Fw (H0 H : Hp) : V → PyData → Prop
  | non : Fw H0 H .non .none
  | bl (b : Bool) : Fw H0 H (.bl b) (.bool b)
  | int (i : Int) : Fw H0 H (.int i) (.int i)
  | str (x : Str) : Fw H0 H (.str x) (.str x)
  | tup {a : Addr} {xs : List V} {ds : List PyData} : H a = some (.tup xs) → H0 a = none → FwAll H0 H xs ds → Fw H0 H (.ref a) (.tuple ds)
  | lst {a : Addr} {xs : List V} {ds : List PyData} : H a = some (.lst xs) → H0 a = none → a ≠ sysModules → FwAll H0 H xs ds → Fw H0 H (.ref a) (.list ds)
  | dct {a : Addr} : H a = some (.dK []) → H0 a = none → Fw H0 H (.ref a) (.dict [])
inductive FwAll (H0 H : Hp) : List V → List PyData → Prop
  | nil : FwAll H0 H [] []
  | cons {v : V} {vs : List V} {d : PyData} {ds : List PyData} : Fw H0 H v d → FwAll H0 H vs ds → FwAll H0 H (v :: vs) (d :: ds)
end
theorem FwAll.len {H0 H : Hp} : ∀ {ds : List PyData} {vs : List V}, FwAll H0 H vs ds → vs.length = ds.length
  | _, _, .nil => rfl
  | _, _, .cons _ b => by rw [List.length_cons, List.length_cons, b.len]
theorem FwAll.at {H0 H : Hp} : ∀ {ds : List PyData} {vs : List V}, FwAll H0 H vs ds → ∀ {i : Nat} {v : V}, vs[i]? = some v → ∃ d, ds[i]? = some d ∧ Fw H0 H v d
  | _, _, .nil, i, v, e => by simp at e
  | _, _, .cons a b, 0, v, e => by cases Option.some.inj e; exact ⟨_, rfl, a⟩
  | _, _, .cons a b, i + 1, v, e => FwAll.at b (i := i) (by simpa using e)
theorem FwAll.append {H0 H : Hp} : ∀ {ds es : List PyData} {vs us : List V}, FwAll H0 H vs ds → FwAll H0 H us es → FwAll H0 H (vs ++ us) (ds ++ es)
  | _, _, _, _, .nil, h => h
  | _, _, _, _, .cons a b, h => .cons a (FwAll.append b h)
/-! ### the readings of written values -/
/-! ### written values, part by part: only the value is in the reading -/
mutual
theorem Fw.da {K : PySem.W.Frag} {ok : Addr → Prop} {H0 H : Hp} (hok : ∀ a, H0 a = none → ok a) : ∀ {d : PyData} {v : V}, Fw H0 H v d → Da K ok H v d
  | _, _, .non => .non
  | _, _, .bl b => .bl b
  | _, _, .int i => .int i
  | _, _, .str x => .str x
  | _, _, .tup h n g => .tup (SqT.of h) (FwAll.da hok g)
  | _, _, .lst h n m g => .lst h (hok _ n) m (FwAll.da hok g)
  | _, _, .dct h n => .dct h (hok _ n)
theorem FwAll.da {K : PySem.W.Frag} {ok : Addr → Prop} {H0 H : Hp} (hok : ∀ a, H0 a = none → ok a) : ∀ {ds : List PyData} {vs : List V}, FwAll H0 H vs ds → DaAll K ok H vs ds
  | _, _, .nil => .nil
  | _, _, .cons a b => .cons (Fw.da hok a) (FwAll.da hok b)
end
end Ml
namespace Ml
open PySem PySem.Spec PyProof.Rows L2
/-! ### values of any kind: what laws that draw them share -/
def okA (d r : Addr) : Addr → Prop := fun a => a ≠ d ∧ a ≠ r
theorem nx_mk {T : L2.St → Hp → Prop} {rt : VK} {bk ct : L2.St → Hp → Prop} {σ : L2.St} {H : Hp} (h : T σ H) : Ends.nx { nx := T, rt := rt, bk := bk, ct := ct } σ H := h
def isT : PyData → Bool
  | .tuple _ => true
  | _ => false
theorem big16 {n : Nat} (h : n ≤ 16000000) : n ≤ sizeLine := by rw [sizeLine_eq]; omega
theorem wtAll_ints : ∀ ns : List Int, wtAll (ns.map PyData.int) = 47 * ns.length
  | [] => rfl
  | n :: ns => by
    have := wtAll_ints ns
    simp only [List.map_cons, wtAll, wt, this, List.length_cons]
    omega
theorem wtAll_rows : ∀ t : List (List Int), (∀ r ∈ t, r.length ≤ 12) → wtAll (t.map rowD) ≤ 569 * t.length
  | [], _ => Nat.le_refl _
  | r :: t, h => by
    have h1 := wtAll_rows t fun r hr => h r (List.mem_cons_of_mem _ hr)
    have h2 := h r List.mem_cons_self
    have h3 : wt (rowD r) = 47 * r.length + 3 := by
      show wtAll (r.map PyData.int) + 3 = _
      rw [wtAll_ints]
    simp only [List.map_cons, wtAll, h3, List.length_cons]
    omega
def bigB : Nat := 100000000000000000000000000000
theorem tab_sz {t : List (List Int)} (h : WT t) (hl : t.length ≤ 12) : (∀ y ∈ t.map rowD, Sz bigB 1 y) ∧ wtAll (t.map rowD) ≤ 7000 := by
  have hr : ∀ r ∈ t, r.length ≤ 12 ∧ ∀ x ∈ r, LvOk x := fun r hr => by
    obtain ⟨i, hi, e⟩ := List.getElem_of_mem hr
    obtain ⟨a, b⟩ := h i r (by rw [List.getElem?_eq_getElem hi, e])
    exact ⟨by omega, b⟩
  refine ⟨fun y hy => ?_, Nat.le_trans (wtAll_rows t fun r h => (hr r h).1) (by omega)⟩
  obtain ⟨r, hr', rfl⟩ := List.mem_map.mp hy
  intro z hz
  obtain ⟨i, hi, rfl⟩ := List.mem_map.mp hz
  have := (hr r hr').2 i hi
  unfold LvOk at this
  show i.natAbs ≤ bigB
  unfold bigB
  omega
/-! ### repr of a value, whatever is known of its places -/
def rReprZ (K : PySem.W.Frag) : List V → Hp → VK → Prop := fun vs H Q => ∃ ok : Addr → Prop, rReprA K ok vs H Q
theorem cr_reprZ {X : Cx} {k : Nat} (hg : X.A.guards = some []) (hr : Room k X.A) : CallR X (.builtin "repr") (rReprZ X.K) := fun pins s σ H xs us Q I r ⟨ok, h⟩ => cr_reprA (ok := ok) hg hr pins s σ H xs us Q I r h
/-! ### faults of values -/
/-! ### readings that yield values of any kind -/
def GV (K : PySem.W.Frag) (d r : Addr) (B k W : Nat) (H : Hp) (v : V) : Prop := ∃ x, Da K (okA d r) H v x ∧ Sz B k x ∧ wt x ≤ W
/-- a tuple: its parts, how large they are -/
def GT (K : PySem.W.Frag) (d r : Addr) (B k W m : Nat) (H : Hp) (v : V) : Prop := ∃ a xs ds, v = .ref a ∧ SqT K H a xs ∧ DaAll K (okA d r) H xs ds ∧ (∀ y ∈ ds, Sz B k y) ∧ wtAll ds ≤ W ∧ ds.length ≤ m
section
variable {K : PySem.W.Frag} {d c r : Addr} {B k W m B' k' W' m' : Nat} {H H' : Hp} {v : V} {n : Nat}
theorem GV.same (h : GV K d r B k W H v) (e : Sm H H') : GV K d r B k W H' v := by
  obtain ⟨x, a, b, w⟩ := h
  exact ⟨x, a.same e, b, w⟩
theorem GV.kp (D : Dr H d c r n) (e : Kp d r H H') (h : GV K d r B k W H v) : GV K d r B k W H' v := by
  obtain ⟨x, a, b, z⟩ := h
  exact ⟨x, a.kp (fun _ h => h) D e, b, z⟩
theorem GV.mono (h : GV K d r B k W H v) (hB : B ≤ B') (hk : k ≤ k') (hW : W ≤ W') : GV K d r B' k' W' H v := by
  obtain ⟨x, a, b, z⟩ := h
  exact ⟨x, a, b.mono hB hk, by omega⟩
theorem GT.same (h : GT K d r B k W m H v) (e : Sm H H') : GT K d r B k W m H' v := by
  obtain ⟨a, xs, ds, h1, h2, h3, h4⟩ := h
  exact ⟨a, xs, ds, h1, e.sqT h2, h3.same e, h4⟩
theorem GT.kp (D : Dr H d c r n) (e : Kp d r H H') (h : GT K d r B k W m H v) : GT K d r B k W m H' v := by
  obtain ⟨a, xs, ds, h1, h2, h3, h4⟩ := h
  exact ⟨a, xs, ds, h1, D.kpT e h2, h3.kp (fun _ h => h) D e, h4⟩
theorem GT.mono (h : GT K d r B k W m H v) (hB : B ≤ B') (hk : k ≤ k') (hW : W ≤ W') (hm : m ≤ m') : GT K d r B' k' W' m' H v := by
  obtain ⟨a, xs, ds, h1, h2, h3, h4, h5, h6⟩ := h
  exact ⟨a, xs, ds, h1, h2, h3, fun y hy => (h4 y hy).mono hB hk, by omega, by omega⟩
end
/-- what stays good whatever is drawn and laid anew -/
def Sta (d c r : Addr) (G : Hp → V → Prop) : Prop := ∀ n H H' v, Dr H d c r n → Kp d r H H' → G H v → G H' v
/-- a reading that yields a good value and draws at most k times -/
def GE (d c r : Addr) (J : L2.St → Hp → Prop) (L k : Nat) (G : Hp → V → Prop) (te : TE) : Prop :=
  ∀ n σ H (Q : VK), n + k ≤ L → Dr H d c r n → J σ H → (∀ v H', Kp d r H H' → Dr H' d c r (n + k) → J σ H' → G H' v → Q v H') → te σ H Q
def GA (d c r : Addr) (J : L2.St → Hp → Prop) (L k m : Nat) (G : Hp → V → Prop) (ta : TA) : Prop :=
  ∀ n σ H (Q : List V → Hp → Prop), n + k ≤ L → Dr H d c r n → J σ H → (∀ vs H', Kp d r H H' → Dr H' d c r (n + k) → J σ H' → vs.length = m → (∀ v ∈ vs, G H' v) → Q vs H') → ta σ H Q
/-- a list that is none of the drawing's, of good values -/
structure LV (d r : Addr) (G : Hp → V → Prop) (H : Hp) (l : Addr) (xs : List V) : Prop where
  at_ : H l = some (.lst xs)
  nd : l ≠ d
  nr : l ≠ r
  good : ∀ v ∈ xs, G H v
section
variable {K : PySem.W.Frag} {d c r : Addr} {J : L2.St → Hp → Prop} {L B k W m : Nat} {G : Hp → V → Prop}
theorem LV.kp (hG : Sta d c r G) {n : Nat} {H H' : Hp} {l : Addr} {xs : List V} (h : LV d r G H l xs) (D : Dr H d c r n) (e : Kp d r H H') : LV d r G H' l xs := ⟨e _ _ h.at_ h.nd h.nr, h.nd, h.nr, fun v hv => hG _ _ _ _ D e (h.good v hv)⟩
theorem GE.mono {G' : Hp → V → Prop} {te : TE} {k' : Nat} (h : GE d c r J L k G te) (hk : k ≤ k') (g : ∀ H v, G H v → G' H v) : GE d c r J L k' G' te := fun n σ H Q hn D hJ q => h n σ H Q (by omega) D hJ fun v H' a b e f => q v H' a (b.mono (by omega)) e (g _ _ f)
end
/-! ### the same as statements -/
/-! ### the readings, one by one -/
section
variable {K : PySem.W.Frag} {d c r : Addr} {J : L2.St → Hp → Prop} {L B k W m B' k' W' m' k1 k2 W1 W2 m1 m2 : Nat} {G : Hp → V → Prop} {te te' : TE} {ta : TA} {tl th : TO}
/-- a slice's part -/
def GO (d c r : Addr) (J : L2.St → Hp → Prop) (tl : TO) : Prop := ∀ n σ H Q, Dr H d c r n → J σ H → (∀ l, Q l H) → tl σ H Q
end
mutual
theorem Da.okm {K : PySem.W.Frag} {ok ok' : Addr → Prop} {H : Hp} (e : ∀ a, ok a → ok' a) : ∀ {d : PyData} {v : V}, Da K ok H v d → Da K ok' H v d
  | _, _, .non => .non
  | _, _, .bl b => .bl b
  | _, _, .int i => .int i
  | _, _, .str x => .str x
  | _, _, .lst h o n g => .lst h (e _ o) n (DaAll.okm e g)
  | _, _, .tup h g => .tup h (DaAll.okm e g)
  | _, _, .dct h o => .dct h (e _ o)
theorem DaAll.okm {K : PySem.W.Frag} {ok ok' : Addr → Prop} {H : Hp} (e : ∀ a, ok a → ok' a) : ∀ {ds : List PyData} {vs : List V}, DaAll K ok H vs ds → DaAll K ok' H vs ds
  | _, _, .nil => .nil
  | _, _, .cons a b => .cons (Da.okm e a) (DaAll.okm e b)
end
def allOk : Addr → Prop := fun _ => True
theorem Da.all {K : PySem.W.Frag} {ok : Addr → Prop} {H : Hp} {d : PyData} {v : V} (h : Da K ok H v d) : Da K allOk H v d := h.okm fun _ _ => trivial
theorem DaAll.snoc {K : PySem.W.Frag} {ok : Addr → Prop} {H : Hp} {vs : List V} {ds : List PyData} {v : V} {d : PyData} (h : DaAll K ok H vs ds) (g : Da K ok H v d) : DaAll K ok H (vs ++ [v]) (ds ++ [d]) := h.append (.one g)
theorem lt_line {n : Nat} (h : n ≤ 1000000) : n < sizeLine := by rw [sizeLine_eq]; omega
/-- what repr asks of data -/
theorem showZ {z : PyData} {B n : Nat} (h : Sz B n z) (hw : wt z ≤ 16000000) (hB : B < 10 ^ 40 := by decide) (hn : n ≤ 30 := by decide) : z.showable = true ∧ z.depth ≤ 30 ∧ z.shown.length ≤ sizeLine :=
  ⟨h.show hB, Nat.le_trans (h.depth) hn, Nat.le_trans (h.text hB) (big16 hw)⟩
/-! ### a list that is not empty -/
def rNeNilL (K : PySem.W.Frag) : R2 := fun x y H Q => ∃ a b xs, x = .ref a ∧ y = .ref b ∧ SqL K H a xs ∧ SqL K H b [] ∧ Q (.bl (!decide (xs = []))) H
theorem plain_isl {h : Heap} {a : Addr} {its : Array Value} (p : PlainL h a its) : h.IsList a its := by
  obtain ⟨o, n, h1, h2, _, h3⟩ := p
  exact ⟨o, h1, h2, n, h3⟩
theorem op_neNilL {X : Cx} (hu : X.A.units + 64 < cLine) : OpR X (compareOp .NotEq) (rNeNilL X.K) := by
  intro pins s σ H x y v u Q I r1 r2 h
  obtain ⟨a, b, xs, rfl, rfl, h1, h2, q⟩ := h
  cases r1
  cases r2
  obtain ⟨its, ri, pi, _⟩ := I.list h1
  obtain ⟨its2, ri2, pi2, _⟩ := I.list h2
  cases ri2
  have hl := ri.length
  cases xs with
  | nil =>
    cases ri
    refine SeqAt.RcNeAt.lists (e := fun _ => true) (plain_isl pi) (plain_isl pi2) rfl (by omega) (fun j _ h2 => absurd h2 (by simp)) X.prog X.w _ _ ?_
    exact ⟨.bl false, H, I, rfl, q⟩
  | cons x l =>
    cases ri with
    | cons r1 r2 =>
      refine SeqAt.RcNeAt.lists_lengths (plain_isl pi) (plain_isl pi2) (by simp) (by omega) X.prog X.w _ _ ?_
      exact ⟨.bl true, H, I, rfl, q⟩
end Ml
namespace Ml
open PySem PySem.Spec PyProof.Rows L2
/-! ### data without lists; comprehensions that draw -/
def noL : Addr → Prop := fun _ => False
section
variable {K : PySem.W.Frag} {d c r D : Addr} {H H' H1 Hy H4 : Hp}
theorem DaAll.nst {ys zs : List V} {ds : List PyData} {vs : List V} (h : DaAll K Ml.noL H vs ds) (hl : H D = some (.lst ys)) : DaAll K Ml.noL (upd H D (.lst zs)) vs ds :=
  h.to (fun a o e z => z.elim) fun a xs e => sqT_upd hl e
theorem Da.nst {ys zs : List V} {ds : PyData} {vs : V} (h : Da K Ml.noL H vs ds) (hl : H D = some (.lst ys)) : Da K Ml.noL (upd H D (.lst zs)) vs ds :=
  h.to (fun a o e z => z.elim) fun a xs e => sqT_upd hl e
theorem DaAll.nkp {n : Nat} {ds : List PyData} {vs : List V} (h : DaAll K Ml.noL H vs ds) (g : Dr H d c r n) (e : Kp d r H H') : DaAll K Ml.noL H' vs ds := h.kp (fun _ z => z.elim) g e
/-- what a comprehension over j items has collected at D; it drew k times for each -/
structure CP (K : PySem.W.Frag) (d c r : Addr) (H1 : Hp) (D : Addr) (n k : Nat) (Pd : Nat → PyData → Prop) (j : Nat) (Hy : Hp) : Prop where
  ex : ∃ ms ds, Hy D = some (.lst ms) ∧ DaAll K Ml.noL Hy ms ds ∧ ds.length = j ∧ ∀ i y, ds[i]? = some y → Pd i y
  dr : Dr Hy d c r (n + k * j)
  kp : Kp d r H1 Hy
variable {n k : Nat} {Pd : Nat → PyData → Prop} {j : Nat}
theorem CP.init (g : Dr H1 d c r n) (hD : H1 D = none) : CP K d c r H1 D n k Pd 0 (upd H1 D (.lst [])) :=
  ⟨⟨[], [], upd_same, .nil, rfl, fun i y h => by simp at h⟩, g.new hD, Kp.new hD⟩
theorem CP.step (h : CP K d c r H1 D n k Pd j Hy) (g1 : Dr H1 d c r n) (hD : H1 D = none) (hj : j ≤ 1000) {y : V} {u : PyData} (e : Kp d r Hy H4) (g : Dr H4 d c r (n + k * j + k)) (a : Da K Ml.noL H4 y u) (p : Pd j u) :
    ∃ acc, H4 D = some (.lst acc) ∧ acc.length < sizeLine ∧ CP K d c r H1 D n k Pd (j + 1) (upd H4 D (.lst (acc ++ [y]))) := by
  obtain ⟨ms, ds, h1, h2, h3, h4⟩ := h.ex
  have nD := g1.ne hD
  have h1' := e _ _ h1 nD.1 nD.2.2
  have hl := h2.len
  refine ⟨ms, h1', lt_line (by omega), ⟨⟨ms ++ [y], ds ++ [u], upd_same, ((h2.nkp h.dr e).append (.one a)).nst h1', by rw [List.length_append, h3]; rfl, fun i z hz => ?_⟩, ?_, fun b o q q1 q2 => ?_⟩⟩
  · by_cases hi : i < ds.length
    · rw [List.getElem?_append_left hi] at hz
      exact h4 i z hz
    · rw [List.getElem?_append_right (by omega)] at hz
      cases e2 : i - ds.length with
      | zero =>
        rw [e2] at hz
        cases Option.some.inj hz
        obtain rfl : i = j := by omega
        exact p
      | succ q => rw [e2] at hz; simp at hz
  · rw [Nat.mul_succ, ← Nat.add_assoc]
    exact g.upd nD.1 nD.2.1 nD.2.2
  · rw [upd_ne (ne_of_none q hD)]
    exact e b o (h.kp b o q q1 q2) q1 q2
/-- tuple(..) of it -/
theorem CP.tuple (h : CP K d c r H1 D n k Pd j Hy) {Q : VK} (q : ∀ (p : Addr) (ds : List PyData) (H' : Hp), Da K Ml.noL H' (.ref p) (.tuple ds) → ds.length = j → (∀ i y, ds[i]? = some y → Pd i y) → Dr H' d c r (n + k * j) → Kp d r H1 H' → Q (.ref p) H') :
    ∃ p ys, ([V.ref D] : List V) = [.ref p] ∧ ((SqL K Hy p ys ∧ ∀ l, Hy l = none → Q (.ref l) (upd Hy l (.tup ys))) ∨ (SqT K Hy p ys ∧ Q (.ref p) Hy)) := by
  obtain ⟨ms, ds, h1, h2, h3, h4⟩ := h.ex
  refine ⟨D, ms, rfl, .inl ⟨SqL.of h1, fun l hl => ?_⟩⟩
  have s := Sm.new (o := .tup ms) hl
  exact q l ds _ (.tup (SqT.of upd_same) (h2.same s)) h3 h4 (h.dr.same s) (h.kp.trans s.kp)
end
end Ml
namespace Ml
open PySem PySem.Spec PyProof.Rows L2
/-- a set that has just been made -/
abbrev emptyS (w : World) : Obj := { cls := .type "set", dict := none, data := .set #[] 0 (.fresh 0 0 (!w.params.followText "set-order")) }
section
variable {P : Program} {w : World} {A : Around} {E : Value → Shared → Prop} {s : Shared}
set_option maxHeartbeats 6400000 in
/-- set(l) of a list of ints -/
theorem set_of_list {l : Addr} {vals : Array Value} (zs : List Int) {Q : Value → Shared → Prop} (calm : A.handled = none) (isl : s.heap.IsList l vals) (are : IntsAre vals.toList zs) (few : zs.length + 1 < scanBound)
    (fin : ∀ (g : Heap) (tk c : Nat), SetR w g s.heap.objs.size (fun j => decide (j ∈ zs)) c → c ≤ zs.length → (∀ b o, s.heap.get? b = some o → g.get? b = some o) → Q (.ref s.heap.objs.size) { s with heap := g, toks := tk }) :
    wpAny (model P w) A (call (.type "set") [.ref l]) Q E s := by
  have size : vals.size = zs.length := by
    have e := IntsAre.length are
    rwa [Array.length_toList] at e
  obtain ⟨_, _, mro⟩ := F.called_set.mro
  have made := F.called_set.made
  have subs := F.called_set.sub
  refine wpAny_call (codeAny_of_tree ?_)
  show wpAny _ _ (callAny (.type "set") _) _ _ _
  refine wpAny_pure ⟨Code.quiet_builtin _ (by decide +kernel), codeAny_builtin F.entry_type_call ?_⟩
  rw [Around.under_plain (weight_type_call_type "set" [.ref l] []) rfl]
  have a1 := F.called_set.notType
  have a2 := F.called_set.canCreate
  have a3 := F.typeCall_set_1 (.ref l)
  repeat (any_goals (first | assumption | wp_step))
  refine codeAny_mono (code_set_led1 (.ref l) (E := E) (Q₁ := fun v z => v = .ref s.heap.objs.size ∧ z = { s with heap := s.heap.push (emptyS w) }) ⟨rfl, rfl⟩) fun res z hz => ?_
  cases res with
  | error e => exact hz
  | ok fl =>
    cases fl with
    | ret obj =>
      obtain ⟨rfl, rfl⟩ := hz
      have there : (s.heap.push (emptyS w)).get? s.heap.objs.size = some (emptyS w) := Heap.get?_push_size _ rfl
      have typ : Shared.TypeIs { s with heap := s.heap.push (emptyS w) } (.ref s.heap.objs.size) "set" := ⟨_, there, rfl⟩
      have b1 := F.called_set.init.lookup
      have b2 := F.called_set.init.bind (.ref s.heap.objs.size)
      repeat (any_goals (first | assumption | wp_step))
      refine codeAny_mono (codeAny_call_builtin (R := wants (fun u z => u = .none ∧ ∃ g tk c, z = { s with heap := g, toks := tk } ∧ SetR w g s.heap.objs.size (fun j => decide (j ∈ zs)) c ∧ c ≤ zs.length ∧
          (∀ b o, s.heap.get? b = some o → g.get? b = some o)) E) F.called_set.init.plain F.entry_set_init (check_set_init_1 typ ?_)) fun res2 z2 hz2 => ?_
      · obtain ⟨⟨ocl, odi, oda, osl⟩, hol, hcl, nl, hda⟩ := isl
        simp only at hcl hda
        subst hcl hda
        have hol1 : (s.heap.push (emptyS w)).get? l = some { cls := .type "list", dict := odi, data := .seq vals nl, slots := osl } := Heap.get?_push_of_some _ hol
        have c1 := F.sub_list_set
        have c2 := F.sub_list_frozenset
        have c3 : (Value.type "list" == Value.type "dict") = false := by decide
        have isl1 : (s.heap.push (emptyS w)).IsList l vals := ⟨_, hol1, rfl, nl, rfl⟩
        unfold Builtin.«set.__init__» noKeywords Builtin.Frozenset.updateFrom
        generalize hPI : pyIter = PI
        wp_walk
        subst hPI
        refine wpAny_pyIter_list isl1 ?_
        refine wpAny_bind (wpAny_runValue ?_)
        have lo : l < s.heap.objs.size := Heap.lt_size hol
        have calm3 : A.in1.in1.in1.handled = none := by simp [calm]
        have n1 : l ≠ (s.heap.push (emptyS w)).objs.size := by
          rw [Heap.size_push]
          exact Nat.ne_of_lt (Nat.lt_of_lt_of_le lo (Nat.le_succ _))
        have n2 : s.heap.objs.size ∉ [(s.heap.push (emptyS w)).objs.size, l] := by
          rw [Heap.size_push]
          simp only [List.mem_cons, List.not_mem_nil, or_false, not_or]
          exact ⟨Nat.ne_of_lt (Nat.lt_succ_self _), fun e => Nat.lt_irrefl _ (e ▸ lo)⟩
        have vat : ∀ (i : Nat) (v : Value), vals[i]? = some v → ∃ k t, zs[i]? = some k ∧ v = .int k t := fun i v hv => by
          have hi : i < zs.length := by rw [← size]; exact (Array.getElem?_eq_some_iff.mp hv).1
          obtain ⟨t, e⟩ := PyProof.Rows.IntsAre.int_at are i v (by rw [Array.getElem?_toList]; exact hv)
          refine ⟨zs[i], t, List.getElem?_eq_getElem hi, ?_⟩
          rw [e, List.getD_eq_getElem?_getD, List.getElem?_eq_getElem hi] <;> rfl
        refine set_update_ints ((Walks.list calm3 _ l n1 vals).toS) s.heap.objs.size n2 zs size few vat (vals.size - 0) 0 _ (by omega) (Nat.zero_le _)
          ⟨⟨_, Heap.get?_push_size _ rfl, rfl, rfl⟩, isl1.push _⟩ ⟨0, Nat.le_refl 0, setR_new_at (Heap.get?_push_of_some _ there)⟩ ?_
        rintro ⟨g, ge, dr, tk, os⟩ c mv hc hS
        have e1 : ge = s.gens := mv.gens
        have e2 : dr = s.drawn := mv.drawn
        have e3 : os = s.os := mv.os
        subst e1 e2 e3
        show wpAny _ _ _ _ _ _
        refine wpAny_pure ?_
        show wpAny _ _ (ret Value.none) _ _ _
        rw [size] at hc
        refine wpAny_pure ⟨rfl, g, tk, c, rfl, hS, hc, fun b o e => ?_⟩
        have lb : b < s.heap.objs.size := Heap.lt_size e
        refine mv.heap b o ?_ (Heap.get?_push_of_some _ (Heap.get?_push_of_some _ e))
        rw [Heap.size_push]
        simp only [List.mem_cons, List.not_mem_nil, or_false, not_or]
        exact ⟨fun e => Nat.lt_irrefl _ (e ▸ lb), fun e => Nat.lt_irrefl _ (Nat.lt_trans lb (e ▸ Nat.lt_succ_self _))⟩
      · cases res2 with
        | error e => exact hz2
        | ok fl2 =>
          cases fl2 with
          | ret u =>
            obtain ⟨rfl, g, tk, c, rfl, hS, hc, keep⟩ := hz2
            repeat (any_goals (first | assumption | wp_step))
            exact fin _ _ _ hS hc keep
          | _ => exact hz2.elim
    | _ => exact hz.elim
end
section
variable {X : Cx}
def rSetL1 (K : PySem.W.Frag) (w : World) : List V → Hp → VK → Prop := fun vs H Q => ∃ (a : Addr) (zs : List Int), vs = [V.ref a] ∧ SqL K H a (zs.map V.int) ∧ zs.length ≤ 1000 ∧
  ∀ (p : Addr) (c : Nat), H p = none → c ≤ zs.length → Q (.ref p) (upd H p (SetO w p (fun j => decide (j ∈ zs)) c))
theorem cr_setL1 (hc : X.calm = true) : CallR X (.type "set") (rSetL1 X.K X.w) := by
  intro pins s σ H xs us Q I rxs h
  obtain ⟨a, zs, rfl, hs, few, q⟩ := h
  obtain ⟨u, rfl, ru⟩ := rxs.one
  cases ru
  obtain ⟨its, rv, ⟨o, n, ho, hcl, _, hd⟩, _⟩ := I.list hs
  refine set_of_list zs (I.ok.hd hc) ⟨o, ho, hcl, n, hd⟩ (ints_of_vals rv) (by unfold scanBound; omega) fun g tk c hS hc2 keep => ?_
  have free : H s.heap.objs.size = none := I.hok.fresh (Nat.le_refl _)
  exact ⟨.ref s.heap.objs.size, upd H s.heap.objs.size (SetO X.w s.heap.objs.size _ c), I.laid (t' := tk) keep (Nat.le_refl _) (setO_new hS), rfl, q _ c free hc2⟩
end
end Ml
/-! sorted of a set of ints of any size; a set of ints by two clauses without tests -/
namespace Ml
open PySem PySem.Spec PyProof.Rows L2
/-! ### a dict that is locked meanwhile -/
def Off (d : Addr) (H H' : Hp) : Prop := ∀ b o, H b = some o → b ≠ d → H' b = some o
theorem Off.upd {d : Addr} {H : Hp} {o : HO} : Off d H (L2.upd H d o) := fun b x e n => by rw [upd_ne n]; exact e
theorem Off.trans {d : Addr} {H H1 H2 : Hp} (a : Off d H H1) (b : Off d H1 H2) : Off d H H2 := fun c o h n => b c o (a c o h n) n
theorem Off.sqT {K : PySem.W.Frag} {d a : Addr} {H H' : Hp} {kvs : List (Key × V)} {xs : List V} (e : Off d H H') (hd : H d = some (.dK kvs)) (h : SqT K H a xs) : SqT K H' a xs := by
  rcases h with (q | ⟨o, q⟩) | q
  · exact .inl (.inl (e _ _ q (ne_of q hd (by intro z; cases z))))
  · exact .inl (.inr ⟨o, e _ _ q (ne_of q hd (by intro z; cases z))⟩)
  · exact .inr q
/-! ### limits by their names -/
end Ml
namespace Ml
open PySem PySem.Spec PyProof.Rows L2
/-! ### name = {k: v for ..} -/
/-! ### a dict of paths by their last items -/
abbrev nIv (os : List Nat) : List V := os.map fun i : Nat => V.int (i : Int)
def PD (K : PySem.W.Frag) (H : Hp) (kvs : List (Key × V)) (S : List (List Nat)) : Prop := kvs.length = S.length ∧ ∀ (i : Nat) kv p, kvs[i]? = some kv → S[i]? = some p → kv.1 = Sum.inl ((lst p : Nat) : Int) ∧ ∃ a, kv.2 = .ref a ∧ SqT K H a (nIv p)
theorem PD.same {K : PySem.W.Frag} {H H' : Hp} {kvs : List (Key × V)} {S : List (List Nat)} (h : PD K H kvs S) (e : Sm H H') : PD K H' kvs S :=
  ⟨h.1, fun i kv p a b => let ⟨h1, q, h2, h3⟩ := h.2 i kv p a b; ⟨h1, q, h2, e.sqT h3⟩⟩
theorem PD.nil {K : PySem.W.Frag} {H : Hp} : PD K H [] [] := ⟨rfl, fun i kv p a _ => by simp at a⟩
theorem PD.snoc {K : PySem.W.Frag} {H : Hp} {kvs : List (Key × V)} {S : List (List Nat)} {a : Addr} {p : List Nat} (h : PD K H kvs S) (hp : SqT K H a (nIv p)) : PD K H (kvs ++ [(Sum.inl ((lst p : Nat) : Int), .ref a)]) (S ++ [p]) := by
  refine ⟨by rw [List.length_append, List.length_append, h.1]; rfl, fun i kv q x y => ?_⟩
  by_cases hi : i < kvs.length
  · rw [List.getElem?_append_left hi] at x
    rw [List.getElem?_append_left (by rw [← h.1]; exact hi)] at y
    exact h.2 i kv q x y
  · rw [List.getElem?_append_right (by omega)] at x
    rw [List.getElem?_append_right (by rw [← h.1]; omega), ← h.1] at y
    have hx0 : i - kvs.length = 0 := by
      have := (List.getElem?_eq_some_iff.mp x).1
      simp at this
      omega
    rw [hx0] at x y
    cases Option.some.inj x
    cases Option.some.inj y
    exact ⟨rfl, a, rfl, hp⟩
theorem PD.take {K : PySem.W.Frag} {H : Hp} {kvs : List (Key × V)} {S : List (List Nat)} (h : PD K H kvs S) (m : Nat) : PD K H (kvs.take m) (S.take m) := by
  refine ⟨by rw [List.length_take, List.length_take, h.1], fun i kv p a b => ?_⟩
  rw [List.getElem?_take] at a b
  split at a
  · rename_i hi
    rw [if_pos hi] at b
    exact h.2 i kv p a b
  · cases a
end Ml
namespace Ml
open PySem PySem.Spec PyProof.Rows L2
/-! ### items, paths: values of any kind -/
def nD (l : List Nat) : List PyData := l.map fun i : Nat => .int (i : Int)
end Ml
namespace Ml
open PySem PySem.Spec PyProof.Rows L2
/-! ### lists of good values: by displays, concatenations and comprehensions -/
def GLs (d c r : Addr) (J : L2.St → Hp → Prop) (L k a m : Nat) (G : Hp → V → Prop) (te : TE) : Prop :=
  ∀ n σ H (Q : VK), n + k ≤ L → Dr H d c r n → J σ H → (∀ l xs H', Kp d r H H' → Dr H' d c r (n + k) → J σ H' → LV d r G H' l xs → a ≤ xs.length → xs.length ≤ m → Q (.ref l) H') → te σ H Q
/-- values without lists -/
def GVn (K : PySem.W.Frag) (B k W : Nat) (H : Hp) (v : V) : Prop := ∃ x, Da K noL H v x ∧ Sz B k x ∧ wt x ≤ W
/-- what holds whatever a list is made into -/
def StaS (G : Hp → V → Prop) : Prop := ∀ (H : Hp) (D : Addr) (ys zs : List V) (v : V), H D = some (.lst ys) → G H v → G (upd H D (.lst zs)) v
section
variable {K : PySem.W.Frag} {d c r : Addr} {J J' : L2.St → Hp → Prop} {L B k W a m k' a' m' W' B' k1 k2 : Nat} {G G' G0 : Hp → V → Prop} {te te' : TE} {ta : TA}
theorem GVn.mono {H : Hp} {v : V} (h : GVn K B k W H v) (hB : B ≤ B') (hk : k ≤ k') (hW : W ≤ W') : GVn K B' k' W' H v := by
  obtain ⟨x, a, b, z⟩ := h
  exact ⟨x, a, b.mono hB hk, by omega⟩
theorem GVn.same {H H' : Hp} {v : V} (h : GVn K B k W H v) (e : Sm H H') : GVn K B k W H' v := by
  obtain ⟨x, a, b⟩ := h
  exact ⟨x, a.same e, b⟩
theorem GLs.mono (h : GLs d c r J L k a m G te) (hk : k ≤ k') (ha : a' ≤ a) (hm : m ≤ m') (g : ∀ H v, G H v → G' H v) : GLs d c r J L k' a' m' G' te := fun n σ H Q hn D hJ q =>
  h n σ H Q (by omega) D hJ fun l xs H' b e j v l1 l2 => q l xs H' b (e.mono (by omega)) j ⟨v.at_, v.nd, v.nr, fun u hu => g _ _ (v.good u hu)⟩ (by omega) (by omega)
/-- what a comprehension has collected -/
structure CL (d c r : Addr) (H1 : Hp) (D : Addr) (G : Hp → V → Prop) (n k i : Nat) (Hx : Hp) : Prop where
  ex : ∃ xs, Hx D = some (.lst xs) ∧ xs.length = i ∧ ∀ v ∈ xs, G Hx v
  dr : Dr Hx d c r (n + k * i)
  kp : Kp d r H1 Hx
theorem CL.init {H1 : Hp} {D : Addr} {n : Nat} (g : Dr H1 d c r n) (hD : H1 D = none) : CL d c r H1 D G n k 0 (upd H1 D (.lst [])) :=
  ⟨⟨[], upd_same, rfl, fun v hv => by simp at hv⟩, g.new hD, Kp.new hD⟩
theorem CL.step (hG : Sta d c r G) (hS : StaS G) {H1 H4 Hx : Hp} {D : Addr} {n i : Nat} (h : CL d c r H1 D G n k i Hx) (g1 : Dr H1 d c r n) (hD : H1 D = none) (hi : i ≤ 1000) {y : V} (e : Kp d r Hx H4) (g : Dr H4 d c r (n + k * i + k)) (p : G H4 y) :
    ∃ acc, H4 D = some (.lst acc) ∧ acc.length < sizeLine ∧ CL d c r H1 D G n k (i + 1) (upd H4 D (.lst (acc ++ [y]))) := by
  obtain ⟨xs, h1, h2, h3⟩ := h.ex
  have nD := g1.ne hD
  have h1' := e _ _ h1 nD.1 nD.2.2
  refine ⟨xs, h1', lt_line (by omega), ⟨⟨xs ++ [y], upd_same, by rw [List.length_append, h2]; rfl, fun v hv => ?_⟩, ?_, fun b o q q1 q2 => ?_⟩⟩
  · refine hS _ _ _ _ _ h1' ?_
    rcases List.mem_append.mp hv with hv | hv
    · exact hG _ _ _ _ h.dr e (h3 v hv)
    · rw [List.mem_singleton.mp hv]; exact p
  · rw [Nat.mul_succ, ← Nat.add_assoc]
    exact g.upd nD.1 nD.2.1 nD.2.2
  · rw [upd_ne (ne_of_none q hD)]
    exact e b o (h.kp b o q q1 q2) q1 q2
end
end Ml
namespace Ml
open PySem PySem.Spec PyProof.Rows L2
/-! ### parts of trees: data of any kind -/
def mn (l : List Nat) : Nat := l.min?.getD 0
end Ml
namespace Ml
open PySem PySem.Spec PyProof.Rows L2
/-! ### clusters -/
structure UlF (F : Nat → Nat → Int) (n : Nat) : Prop where
  diag : ∀ i, i < n → F i i = 0
  sym : ∀ i j, F i j = F j i
  tri : ∀ i j k, i < n → j < n → k < n → F i j ≤ max (F i k) (F k j)
  pos : ∀ i j, i < n → j < n → i ≠ j → 0 < F i j
theorem UlF.gr {F : Nat → Nat → Int} {n : Nat} (U : UlF F n) {l : Int} (h : 0 ≤ l) : GrF F n l := ⟨fun i hi => by rw [U.diag i hi]; exact h, U.sym, U.tri⟩
theorem UlF.nn {F : Nat → Nat → Int} {n : Nat} (U : UlF F n) {i j : Nat} (hi : i < n) (hj : j < n) : 0 ≤ F i j := by
  by_cases e : i = j
  · subst e
    rw [U.diag i hi]
    exact Int.le_refl _
  · exact Int.le_of_lt (U.pos i j hi hj e)
def Cl (F : Nat → Nat → Int) (n : Nat) (k : List Int) : Prop := ∃ i j, i < n ∧ j < n ∧ i ≠ j ∧ k = iL (grp F n (F i j) i)
section
variable {F : Nat → Nat → Int} {n : Nat}
theorem Cl.ne (U : UlF F n) {k : List Int} (h : Cl F n k) : k ≠ [] := by
  obtain ⟨i, j, hi, hj, _, rfl⟩ := h
  intro e
  have := grp_ne (U.gr (U.nn hi hj)) hi
  cases e2 : grp F n (F i j) i with
  | nil => exact this e2
  | cons a r => rw [e2] at e; cases e
end
/-! a walk, whatever is done at each turn -/
end Ml
namespace Ml
open PySem PySem.Spec PyProof.Rows L2
/-! ### joins -/
abbrev Jo := Int × List (List Int)
def jnD (j : Jo) : PyData := .tuple [.int j.1, tabD j.2]
def partsN (F : Nat → Nat → Int) (n : Nat) (l : Int) (g : List Nat) : List (List Nat) := (gsL F n (l - 1) n).filter fun p => decide (p.headD 0 ∈ g)
def joinG (F : Nat → Nat → Int) (n : Nat) (l : Int) (g : List Nat) : Jo := (l, (partsN F n l g).map iL)
section
variable {F : Nat → Nat → Int} {n : Nat}
def k2 (j : Jo) : Int := hdI (j.2.headD [])
/-! the program's list -/
end
/-! joins on the heap -/
def JT (K : PySem.W.Frag) (H : Hp) (v : V) (j : Jo) : Prop := ∃ p qv, v = .ref p ∧ SqT K H p [.int j.1, qv] ∧ TT K H qv j.2
def JRows (K : PySem.W.Frag) (H : Hp) (vs : List V) (js : List Jo) : Prop := vs.length = js.length ∧ ∀ (i : Nat) v j, vs[i]? = some v → js[i]? = some j → JT K H v j
def JTT (K : PySem.W.Frag) (H : Hp) (v : V) (js : List Jo) : Prop := ∃ p vs, v = .ref p ∧ SqT K H p vs ∧ JRows K H vs js
section
variable {K : PySem.W.Frag} {H H' : Hp} {vs : List V} {js : List Jo} {v : V} {j : Jo}
theorem JT.same (h : JT K H v j) (e : Sm H H') : JT K H' v j := by
  obtain ⟨p, qv, h1, h2, h3⟩ := h
  exact ⟨p, qv, h1, e.sqT h2, h3.same e⟩
theorem JT.upd {p : Addr} {ys zs : List V} (h : JT K H v j) (hp : H p = some (.lst ys)) : JT K (L2.upd H p (.lst zs)) v j := by
  obtain ⟨a, qv, h1, h2, h3⟩ := h
  exact ⟨a, qv, h1, sqT_upd hp h2, h3.upd hp⟩
theorem JT.dp (h : JT K H v j) : Dp K H v (jnD j) := by
  obtain ⟨p, qv, rfl, h2, h3⟩ := h
  exact .tup h2 (.cons (.int _) (.cons h3.dp .nil))
theorem JRows.nil : JRows K H [] [] := ⟨rfl, fun i v j a _ => by simp at a⟩
theorem JRows.same (h : JRows K H vs js) (e : Sm H H') : JRows K H' vs js := ⟨h.1, fun i v j a b => (h.2 i v j a b).same e⟩
theorem JRows.upd {p : Addr} {ys zs : List V} (h : JRows K H vs js) (hp : H p = some (.lst ys)) : JRows K (L2.upd H p (.lst zs)) vs js := ⟨h.1, fun i v j a b => (h.2 i v j a b).upd hp⟩
theorem JRows.snoc (h : JRows K H vs js) (q : JT K H v j) : JRows K H (vs ++ [v]) (js ++ [j]) := by
  refine ⟨by rw [List.length_append, List.length_append, h.1]; rfl, fun i w k a b => ?_⟩
  by_cases hi : i < vs.length
  · rw [List.getElem?_append_left hi] at a
    rw [List.getElem?_append_left (by rw [← h.1]; exact hi)] at b
    exact h.2 i w k a b
  · rw [List.getElem?_append_right (by omega)] at a
    rw [List.getElem?_append_right (by rw [← h.1]; omega)] at b
    have h0 : i - vs.length = 0 := by
      have := (List.getElem?_eq_some_iff.mp a).1
      simpa using this
    rw [h0] at a
    rw [show i - js.length = 0 by rw [← h.1]; exact h0] at b
    cases a
    cases b
    exact q
theorem JTT.same (h : JTT K H v js) (e : Sm H H') : JTT K H' v js := by
  obtain ⟨p, vs, h1, h2, h3⟩ := h
  exact ⟨p, vs, h1, e.sqT h2, h3.same e⟩
theorem JTT.dp (h : JTT K H v js) : Dp K H v (.tuple (js.map jnD)) := by
  obtain ⟨p, vs, rfl, h2, h3⟩ := h
  refine .tup h2 (dpAll_of (by rw [List.length_map]; exact h3.1) fun i v d a b => ?_)
  rw [List.getElem?_map] at b
  cases e : js[i]? with
  | none => rw [e] at b; cases b
  | some j => rw [e] at b; cases b; exact (h3.2 i v j a e).dp
end
end Ml
namespace Ml
open PySem PySem.Spec PyProof.Rows L2
/-! ### joins make a tree -/
section
variable {F : Nat → Nat → Int} {n : Nat}
/-- what has its tree after m joins -/
def Has (F : Nat → Nat → Int) (n : Nat) (js : List Jo) (m : Nat) (g : List Nat) : Prop := (∃ i, i < n ∧ g = [i]) ∨ ∃ i x, i < n ∧ x < n ∧ i ≠ x ∧ joinG F n (F i x) (grp F n (F i x) i) ∈ js.take m ∧ g = grp F n (F i x) i
end
/-! ### the dict of trees -/
abbrev KK (g : List Nat) : List Key := g.map fun i : Nat => (Sum.inl (i : Int) : Key)
/-- the dict after m joins -/
def Trees (K : PySem.W.Frag) (H : Hp) (t : List (List Int)) (js : List Jo) (m : Nat) (kvs : List (List Key × V)) : Prop := kvs.length ≤ t.length + m ∧ ∀ g, Has (jn t) t.length js m g → ∃ v, valV kvs (KK g) = some v ∧ TrV K H (jtab t) (g.length - 1) g v
theorem Trees.same {K : PySem.W.Frag} {H H' : Hp} {t : List (List Int)} {js : List Jo} {m : Nat} {kvs : List (List Key × V)} (h : Trees K H t js m kvs) (e : Sm H H') : Trees K H' t js m kvs :=
  ⟨h.1, fun g hg => let ⟨v, a, b⟩ := h.2 g hg; ⟨v, a, b.same e⟩⟩
/-! a dict and a tuple of any standing -/
end Ml
namespace Ml
open PySem PySem.Spec PyProof.Rows L2
/-! ### calls of defs that show something -/
theorem GOk.mono {P : Program} {w : World} {K : PySem.W.Frag} {mg : Str → Option Value} {base : Heap} {j k : Nat} {f : Addr} {fd : FuncData} {ps : List Str} {sp : Sp} (F : GOk P w K mg base j f fd ps sp) (h : j ≤ k) : GOk P w K mg base k f fd ps sp :=
  ⟨F.len, fun A outer s H args us vs Q E hg hr => F.go A outer s H args us vs Q E hg (hr.mono h)⟩
theorem run_G {X : Cx} {k : Nat} {f : Addr} {fd : FuncData} {ps : List Str} {ds : List Value} {dvs : List V} {sp : Sp} {E : XK} {pins : List (Addr × Obj)} {σ : L2.St} {H : Hp} {s : Shared} {Q : VK} {us : List Value} {vs : List V} (F : GOk X.prog X.w X.K X.mg X.base k f fd ps sp) (hg : X.A.guards = some []) (hr : Room k X.A) (hb : Binds X.K fd ps ds) (hd : Vals dvs ds) (hx : Passes CX0 X E)
    (I : Inv X pins σ H s) (r : Vals vs us) (h : sp (vs ++ dvs) H Q E) : wpAny (model X.prog X.w) X.A (call (.ref f) us) (EP X pins σ Q) X.xe s := by
  have r2 : Vals (vs ++ dvs) (us ++ ds) := r.append hd
  have hl : (us ++ ds).length = ps.length := by rw [← r2.length]; exact F.len _ _ _ _ h
  refine wpAny_call (codeAny_mono (F.go X.A X.stack s H ⟨us, []⟩ (us ++ ds) (vs ++ dvs) Q E hg hr I.env0 (hb s us I.kIn hl) r2 h) fun r s' hq => ?_)
  cases r with
  | error e => exact hx pins σ H s e s' I hq
  | ok fl =>
    cases fl with
    | ret u => exact I.after hq
    | next => exact False.elim hq
    | brk => exact False.elim hq
    | cont => exact False.elim hq
theorem pe_callG {X : Cx} {k : Nat} {f : Addr} {fd : FuncData} {ps : List Str} {ds : List Value} {dvs : List V} {sp : Sp} {E : XK} {x : Str} {p pos : Pos} {e : Expr} {es : List Expr} {t : TA} (F : GOk X.prog X.w X.K X.mg X.base k f fd ps sp) (hgu : X.A.guards = some []) (hr : Room k X.A) (hg : Gl X x) (hm : X.mg x = some (.ref f)) (hk : PySem.W.keepIn X.K (.ref f) = true) (hb : Binds X.K fd ps ds) (hd : Vals dvs ds) (hx : Passes CX0 X E)
    (ha : PA X (e :: es) t) (hdb : (x == ("__debug__" : Str)) = false := by decide) (he : starEach (e :: es) X.env = (false, eval e X.env) :: starEach es X.env := by rfl) (hpl : (backTo pos (starEach es X.env)).any (·.1) = false := by rfl) :
    PE X (.Call (.Name x p) (e :: es) [] pos) (tCall sp dvs E t) := by
  refine ⟨fun pins s σ H Q I h => ?_⟩
  refine wpAny_Call_Name_kw (ld_glob I hg hm ?_ hdb)
  refine PySem.W.callWith_K (h₀ := X.base) I.ok.mod.kin hk (thn (ha.run pos pins s σ H _ I h) fun us s1 ⟨vs, H1, I1, r, q⟩ => ⟨I1.kIn, ?_⟩) he hpl
  exact run_G F hgu hr hb hd hx I1 r q
end Ml
namespace Ml
open PySem PySem.Spec PyProof.Rows L2
/-! ### one row more -/
theorem lev_app {t : List (List Int)} {row : List Int} {i j : Nat} (hi : i < t.length) (hj : j < t.length) : lev (t ++ [row]) i j = lev t i j := by
  unfold lev
  by_cases h : i = j
  · rw [if_pos h, if_pos h]
  · rw [if_neg h, if_neg h, List.getD_eq_getElem?_getD (l := t ++ [row]), List.getElem?_append_left (by omega), ← List.getD_eq_getElem?_getD]
theorem lev_last {t : List (List Int)} {row : List Int} {i : Nat} (hi : i < t.length) : lev (t ++ [row]) i t.length = row.getD i 0 := by
  unfold lev
  rw [if_neg (by omega), Nat.max_eq_right (by omega), Nat.min_eq_left (by omega), List.getD_eq_getElem?_getD (l := t ++ [row]), List.getElem?_append_right (by omega), Nat.sub_self]
  rfl
theorem lev_lastl {t : List (List Int)} {row : List Int} {i : Nat} (hi : i < t.length) : lev (t ++ [row]) t.length i = row.getD i 0 := by
  rw [lev_comm, lev_last hi]
theorem even_snoc {t : List (List Int)} {row : List Int} : AllEven (t ++ [row]) ↔ AllEven t ∧ ∀ i j, i < j → j < t.length → Ev (t ++ [row]) i j t.length := by
  have hl : (t ++ [row]).length = t.length + 1 := by rw [List.length_append]; rfl
  constructor
  · intro h
    refine ⟨fun i j k hT => ?_, fun i j h1 h2 => h i j t.length ⟨h1, h2, by omega⟩⟩
    have := h i j k ⟨hT.1, hT.2.1, by have := hT.2.2; omega⟩
    unfold Ev at this ⊢
    rw [lev_app (by have := hT.1; have := hT.2; omega) (by have := hT.2; omega), lev_app (by have := hT.1; have := hT.2; omega) hT.2.2, lev_app (by have := hT.2; omega) hT.2.2] at this
    exact this
  · rintro ⟨h, g⟩ i j k ⟨h1, h2, h3⟩
    by_cases hk : k < t.length
    · have := h i j k ⟨h1, h2, hk⟩
      unfold Ev at this ⊢
      rw [lev_app (by omega) (by omega), lev_app (by omega) hk, lev_app (by omega) hk]
      exact this
    · obtain rfl : k = t.length := by omega
      exact g i j h1 h2
/-! ### one item more -/
def growR (t : List (List Int)) (near : Nat) (l : Int) : List Int := (List.range t.length).map fun k => max l (lev t near k)
def grow (t : List (List Int)) (near : Nat) (l : Int) : List (List Int) := t ++ [growR t near l]
theorem growR_len (t : List (List Int)) (near : Nat) (l : Int) : (growR t near l).length = t.length := by unfold growR; simp
theorem growR_at {t : List (List Int)} {near : Nat} {l : Int} {i : Nat} (hi : i < t.length) : (growR t near l).getD i 0 = max l (lev t near i) := by
  unfold growR
  rw [List.getD_eq_getElem?_getD, List.getElem?_map, List.getElem?_range hi]
  rfl
theorem growR_ok {t : List (List Int)} (hW : WT t) {near : Nat} {l : Int} (hn : near < t.length) (hl : LvOk l) : ∀ x ∈ growR t near l, LvOk x := by
  intro x hx
  obtain ⟨k, hk, rfl⟩ := List.mem_map.mp hx
  have hk := List.mem_range.mp hk
  by_cases e : near = k
  · subst e
    rw [lev_self]
    unfold LvOk at hl ⊢
    omega
  · have := hW.lev hn hk e
    unfold LvOk at hl this ⊢
    omega
theorem grow_wt {t : List (List Int)} (hW : WT t) {near : Nat} {l : Int} (hn : near < t.length) (hl : LvOk l) : WT (grow t near l) := hW.snoc (growR_len t near l) (growR_ok hW hn hl)
theorem grow_even {t : List (List Int)} (hW : WT t) (hU : Ultra t) {near : Nat} {l : Int} (hn : near < t.length) : AllEven (grow t near l) := by
  refine even_snoc.mpr ⟨even_of_ultra hU, fun i j h1 h2 => ?_⟩
  unfold Ev
  rw [lev_app (by omega) h2, lev_last (by omega), lev_last h2, growR_at (by omega), growR_at h2]
  have a := hU i near j (by omega) hn h2
  have b := hU near i j hn (by omega) h2
  have c := hU near j i hn h2 (by omega)
  rw [lev_comm t i near] at a
  rw [lev_comm t j i] at c
  unfold Ev3
  omega
theorem grow_ultra {t : List (List Int)} (hW : WT t) (hU : Ultra t) {near : Nat} {l : Int} (hn : near < t.length) (hl : LvOk l) : Ultra (grow t near l) := ultra_of_even (grow_wt hW hn hl) (grow_even hW hU hn)
/-! ### some of the items -/
end Ml
namespace Ml
open PySem PySem.Spec PyProof.Rows L2
/-! ### a dict of zip of two sequences, lists or tuples -/
def AIt : Bool → Heap → Addr → Addr → Nat → Prop
  | true, h, it, l, k => h.IsTupleIter it l k
  | false, h, it, l, k => h.IsListIter it l k
def ASq : Bool → Heap → Addr → Array Value → Prop
  | true, h, l, xs => h.IsTuple l xs
  | false, h, l, xs => h.IsList l xs
theorem AIt.at {b : Bool} {h h' : Heap} {it l : Addr} {k : Nat} (x : AIt b h it l k) (e : ∀ o, h.get? it = some o → h'.get? it = some o) : AIt b h' it l k := by
  cases b with
  | true => exact Heap.IsTupleIter.at x e
  | false => exact Heap.IsListIter.at x e
theorem ASq.at {b : Bool} {h h' : Heap} {l : Addr} {xs : Array Value} (x : ASq b h l xs) (e : ∀ o, h.get? l = some o → h'.get? l = some o) : ASq b h' l xs := by
  cases b with
  | true => exact Heap.IsTuple.at x e
  | false => exact Heap.IsList.at x e
theorem AIt.ex {b : Bool} {h h' : Heap} {it l c : Addr} {k : Nat} (x : AIt b h it l k) (e : Heap.ExtBut c h h') (ne : it ≠ c) : AIt b h' it l k := x.at fun o q => e _ _ ne q
theorem ASq.ex {b : Bool} {h h' : Heap} {l c : Addr} {xs : Array Value} (x : ASq b h l xs) (e : Heap.ExtBut c h h') (ne : l ≠ c) : ASq b h' l xs := x.at fun o q => e _ _ ne q
/-! ### zip of a tuple and a list -/
/-! ### a dict of zip of whole numbers and values -/
end Ml
namespace Ml
open PySem PySem.Spec PyProof.Rows L2
/-! ### own classes: what the top has written of them -/
/-- a property -/
structure Pd (K : PySem.W.Frag) (C : Addr) (m qual : Str) (st : Stmt) (f : Addr) (fd : FuncData) : Prop where
  P : ∃ p, PropOf K C m p f
  F : Fun K m qual st f fd
  b : Binds K fd ["self"] []
end Ml
namespace Ml
open PySem PySem.Spec PySem.Calls PyProof.Rows L2
/-! ### a, *b = a tuple -/
section
variable {prog : Program} {w : World} {A : Around} {E : Value → Shared → Prop} {s : Shared}
theorem unp_star {l : Addr} {items : Array Value} {n i : Nat} {Q : List Value → Shared → Prop} (hl : IsTup s.heap l items) (hh : A.handled = none) (hi : i < n) (hn : n ≤ items.size + 1) (hz : items.size ≤ 16384)
    (h : ∀ (h' : Heap) (tk : Nat), (∀ b o, s.heap.get? b = some o → h'.get? b = some o) → Q (items.toList.take i ++ [.ref h'.objs.size] ++ (items.toList.drop i).drop (items.size + 1 - n)) { s with heap := h'.push { cls := .type "list", data := .seq ((items.toList.drop i).take (items.size + 1 - n)).toArray }, toks := tk }) : wpAny (model prog w) A (unpackItems (.ref l) n (some i)) Q E s := by
  have hlt : l ≠ s.heap.objs.size := by obtain ⟨o, ho, _⟩ := hl; exact Nat.ne_of_lt (Heap.lt_size ho)
  have hll : l < s.heap.objs.size := by obtain ⟨o, ho, _⟩ := hl; exact Heap.lt_size ho
  unfold unpackItems
  refine wpAny_bind ?_
  unfold notIterableAtAll
  refine wpAny_bind (wpAny_specialOf hl.typeIs slot_tuple_iter.lookup ?_)
  refine wpAny_pure ?_
  simp only [Bool.false_eq_true, if_false]
  refine wpAny_bind (wpAny_holding (iter_tuple hl ?_))
  refine wpAny_bind (wpAny_holding (draw_tuple hlt i 0 _ _ ⟨_, Heap.get?_push_size _ rfl, rfl, rfl⟩ (hl.push _) (by omega) fun h₁ hit₁ hs₁ => ?_))
  have hl₁ : IsTup h₁ l items := (hl.push _).extBut hs₁.extBut hlt
  rw [Nat.zero_add] at hit₁
  have hit₁' := hit₁
  obtain ⟨oi, hoi, _⟩ := hit₁'
  have hl₁' := hl₁
  obtain ⟨ol, hol, _⟩ := hl₁'
  rw [List.drop_zero]
  have hfl : (items.toList.take i).length = i := by rw [List.length_take, Array.length_toList]; omega
  rw [if_neg (show ¬ ((items.toList.take i).length < i) by rw [hfl]; omega)]
  refine wpAny_bind (wpAny_holding (PySem.W.kun_collect (s := { s with heap := h₁ }) (T := "tuple_iterator") (.inr (.inr (.inr rfl))) (Walks.tuple (A := A.in1) hh s.heap.objs.size l hlt items) (fun j u st => st.1.typeIs) (k := i) (by omega) ⟨hit₁, hl₁⟩ (Heap.lt_size hoi) (Heap.lt_size hol) (fun h₂ tk hk => ?_) (by rw [sizeLine_eq]; omega)))
  have hrl : (items.toList.drop i).length = items.size - i := by rw [List.length_drop, Array.length_toList]
  have hmid : (items.toList.drop i).length - (n - 1 - i) = items.size + 1 - n := by rw [hrl]; omega
  show wpAny _ _ (if (items.toList.drop i).length < n - 1 - i then _ else _) _ _ _
  rw [if_neg (by rw [hrl]; omega)]
  show wpAny _ _ (newList ((items.toList.drop i).take ((items.toList.drop i).length - (n - 1 - i))) >>= fun d => pure (items.toList.take i ++ [d] ++ (items.toList.drop i).drop ((items.toList.drop i).length - (n - 1 - i)))) _ _ _
  rw [hmid]
  have he : ∀ b o, s.heap.get? b = some o → h₂.get? b = some o := fun b o e => hk b o (Nat.ne_of_lt (Heap.lt_size e)) (hs₁.extBut b o (Nat.ne_of_lt (Heap.lt_size e)) (Heap.get?_push_of_some _ e))
  exact wpAny_bind (wpAny_newList (s := { s with heap := h₂, toks := tk }) (wpAny_pure (h h₂ tk he)) (by rw [List.length_take, hrl, sizeLine_eq]; omega))
end
section
variable {X : Cx} {es : List Expr} {t : TGs} {u : TG} {n i : Nat} {pos : Pos}
theorem pgs_star {e : Expr} {p : Pos} (h1 : PG X e u) (h2 : PGs X es t)
    (hs : (assignEach (.Starred e p :: es) X.env).map (·.2) = assign e X.env :: (assignEach es X.env).map (·.2) := by rfl) : PGs X (.Starred e p :: es) (gCons u t) := by
  refine ⟨fun pins s σ H vs us Q I r h => ?_⟩
  obtain ⟨v, vr, e1, h⟩ := h
  subst e1
  cases r with
  | cons r rr =>
    rw [hs]
    refine assignInOrder_cons (thn (h1.run pins s σ H _ _ _ I r h) fun _ s1 ⟨σ1, H1, I1, q1⟩ => ?_)
    exact h2.run pins s1 σ1 H1 _ _ Q I1 rr q1
/-- one name starred, at the place i of n: the rest is a new list -/
def gTupS (K : PySem.W.Frag) (n i : Nat) (t : TGs) : TG := fun v σ H Q => ∃ a xs, v = .ref a ∧ SqT K H a xs ∧ i < n ∧ n ≤ xs.length + 1 ∧ xs.length ≤ 16384 ∧
  ∀ l, H l = none → t (xs.take i ++ [V.ref l] ++ (xs.drop i).drop (xs.length + 1 - n)) σ (upd H l (.lst ((xs.drop i).take (xs.length + 1 - n)))) Q
theorem vals_take {xs : List V} {us : List Value} (h : Vals xs us) (k : Nat) : Vals (xs.take k) (us.take k) := by
  induction h generalizing k with
  | nil => rw [List.take_nil, List.take_nil]; exact .nil
  | cons r _ ih =>
    cases k with
    | zero => exact .nil
    | succ k => exact .cons r (ih k)
theorem vals_drop {xs : List V} {us : List Value} (h : Vals xs us) (k : Nat) : Vals (xs.drop k) (us.drop k) := by
  induction h generalizing k with
  | nil => rw [List.drop_nil, List.drop_nil]; exact .nil
  | cons r q ih =>
    cases k with
    | zero => exact .cons r q
    | succ k => exact ih k
theorem pg_tupS {k : Nat} (hc : X.calm = true) (h : PGs X es t) (hn : (assignEach es X.env).length = n := by rfl) (hst : (assignEach es X.env).findIdx? (·.1) = some i := by rfl) : PG X (.Tuple es k pos) (gTupS X.K n i t) := by
  refine ⟨fun pins s σ H v u Q I r hw => ?_⟩
  obtain ⟨a, xs, rfl, hq, hi, hle, hz, hw⟩ := hw
  cases r
  obtain ⟨its, rv, ht, _⟩ := I.tuple hq
  have hl := rv.length
  have hsz : its.toArray.size = xs.length := by rw [List.size_toArray, hl]
  rw [assign_Tuple]
  refine wpAny_bind (wpAny_standAt ?_)
  unfold unpack
  rw [hn, hst]
  refine wpAny_bind (wpAny_holding (unp_star ht (I.ok.hd hc) hi (by rw [hsz]; exact hle) (by rw [hsz]; exact hz) fun h' tk keep => ?_))
  have I1 : Inv X pins σ H { s with heap := h', toks := tk } := I.kept keep
  rw [hsz, List.toList_toArray]
  have rm : Vals ((xs.drop i).take (xs.length + 1 - n)) ((its.drop i).take (xs.length + 1 - n)) := vals_take (vals_drop rv i) _
  have I2 : Inv X pins σ (upd H h'.objs.size (.lst ((xs.drop i).take (xs.length + 1 - n)))) { s with heap := h'.push { cls := .type "list", data := .seq ((its.drop i).take (xs.length + 1 - n)).toArray }, toks := tk } :=
    I1.laid (fun b o e => Heap.get?_push_of_some _ e) (Nat.le_refl _) ⟨by rw [List.length_take, List.length_drop, sizeLine_eq]; omega, _, 0, rm, Heap.get?_push_size _ rfl⟩
  have rr : Vals (xs.take i ++ [V.ref h'.objs.size] ++ (xs.drop i).drop (xs.length + 1 - n)) (its.take i ++ [Value.ref h'.objs.size] ++ (its.drop i).drop (xs.length + 1 - n)) := ((vals_take rv i).append (.cons (show RelV (V.ref h'.objs.size) (Value.ref h'.objs.size) from rfl) .nil)).append (vals_drop (vals_drop rv i) _)
  exact h.run pins _ σ _ _ _ Q I2 rr (hw h'.objs.size (I1.hok.fresh (Nat.le_refl _)))
end
end Ml
namespace Ml
open PySem PySem.Spec PyProof.Rows L2
/-! ### the head by a run in the kernel: facts of the written part, found by names -/
abbrev Ft : Type := PySem.W.Frag → Bool
/-- a def, a method, a property's function: where it stands, what it is -/
structure DefE where
  ad : PySem.W.Frag → Addr
  name : Str
  qual : Str
  params : Arguments
  body : List Stmt
  scope : Scope
def DefE.obs (K : PySem.W.Frag) (d : DefE) : He.FnV := match K.lookup (d.ad K) with
  | some ⟨_, _, .func fd, _⟩ => some (fd.name, fd.qualname, fd.params, fd.body, fd.scope, fd.globals, fd.closure, fd.defaults, fd.builtins)
  | _ => none
def DefE.val (d : DefE) : He.FnV := some (d.name, d.qual, d.params, .stmts d.body, d.scope, mainGlobals, [], .none, builtinsNs)
def DefE.ok (K : PySem.W.Frag) (d : DefE) : Bool := match K.lookup (d.ad K) with
  | some ⟨_, _, .func fd, _⟩ => PySem.W.codeIn K fd.code d.qual
  | _ => false
theorem DefE.at_ {K : PySem.W.Frag} {d : DefE} (e : d.obs K = d.val) (c : d.ok K = true) :
    ∃ oc od osl kV doc pm an cdv ct, K.lookup (d.ad K) = some ⟨oc, od, .func (PySem.W.fnOf d.name d.qual d.params d.body d.scope .none kV doc pm an cdv ct), osl⟩ ∧ PySem.W.codeIn K cdv d.qual = true := by
  unfold DefE.obs at e
  unfold DefE.ok at c
  cases q : K.lookup (d.ad K) with
  | none =>
    rw [q] at c
    cases c
  | some o =>
    obtain ⟨oc, od, dt, osl⟩ := o
    rw [q] at c e
    cases dt with
    | func fd =>
      obtain ⟨n1, n2, n3, n4, n5, n6, n7, n8, n9, n10, n11, n12, n13, n14, n15⟩ := fd
      have e2 : (some (n1, n2, n3, n4, n5, n6, n7, n8, n15) : He.FnV) = some (d.name, d.qual, d.params, .stmts d.body, d.scope, mainGlobals, [], .none, builtinsNs) := e
      simp only [Option.some.injEq, Prod.mk.injEq] at e2
      obtain ⟨h1, h2, h3, h4, h5, h6, h7, h8, h9⟩ := e2
      subst h1 h2 h3 h4 h5 h6 h7 h8 h9
      exact ⟨oc, od, osl, n9, n10, n11, n12, n13, n14, rfl, c⟩
    | _ => cases c
abbrev Al2 : Type := Bool × List He.FnV
def obs2 (fs : List (List Ft)) (fn : List DefE) (K : PySem.W.Frag) : Al2 := ((fs.all fun l => l.all fun f => f K) && fn.all fun d => d.ok K, fn.map fun d => d.obs K)
def val2 (fn : List DefE) : Al2 := (true, fn.map DefE.val)
def Says2 (fs : List (List Ft)) (fn : List DefE) (K : PySem.W.Frag) : Prop := obs2 fs fn K = val2 fn
/-- what an object names: no built-in, no class's bases (they are the module's names themselves) -/
def refsF (o : Obj) : List Addr := match o.data with
  | .seq its _ => its.toList.flatMap He.refV
  | .dict es _ => es.toList.flatMap fun e => He.refV e.val
  | .func fd => He.refV fd.code ++ He.refV fd.defaults ++ He.refV fd.kwdefaults
  | .cls cd => [cd.ns]
  | .fields vs => vs.toList.flatMap He.refV
  | _ => []
def froF (g : Addr → Option Obj) (as : List Addr) : List Addr := as.flatMap fun a => match g a with
  | some o => refsF o
  | none => []
/-- level by level, nothing twice but by chance -/
def asF (g : Addr → Option Obj) : Nat → List Addr → List Addr
  | 0, as => as
  | n + 1, as => as ++ asF g n (froF g as)
def kG (n : Nat) (g : Addr → Option Obj) : PySem.W.Frag := He.frG g (asF g n [mainGlobals])
def kOf (n : Nat) (s : PySem.W.SharedT) : PySem.W.Frag := kG n (HandSHeadRun.getT s)
def obsG2 (n : Nat) (fs : List (List Ft)) (fn : List DefE) (g : Addr → Option Obj) : Al2 := obs2 fs fn (kG n g)
def hook2 (n : Nat) (fs : List (List Ft)) (fn : List DefE) : PySem.W.Hook where
  α := Al2
  obs := fun s => obsG2 n fs fn s.heap.get?
  val := fun _ => val2 fn
  says := fun _ h => ∃ K : PySem.W.Frag, K.In h ∧ Says2 fs fn K
  of := fun _ _ e => ⟨_, He.frG_in, e⟩
  keeps := fun _ _ _ ⟨K, hK, c⟩ k => ⟨K, PySem.W.Frag.In.keeps hK k, c⟩
def ob2 (n : Nat) (fs : List (List Ft)) (fn : List DefE) (s : PySem.W.SharedT) : Al2 := obsG2 n fs fn (HandSHeadRun.getT s)
/-- the run of the top, looked at part by part: each part a run of its own -/
theorem run_of {r : PySem.W.OpenRow} {q : Program} {n M : Nat} {fs : List (List Ft)} {fn : List DefE} {loose : List Str} {w : World}
    (hA : ∀ os : OsState, (HandSHeadRun.endF (HandSHeadRun.stepQ (HandSHeadRun.denQ HandSHeadRun.tabQ) r.prog w) M r.prog w os).map (fun s => HandSHeadRun.looksF r.prog (PySem.W.boot_heap w.params) s.abs) = some true)
    (hB : ∀ os : OsState, (HandSHeadRun.endF (HandSHeadRun.stepQ (HandSHeadRun.denQ HandSHeadRun.tabQ) r.prog w) M r.prog w os).map (fun s => HandSHeadRun.seenQ q loose (PySem.importedModules r.prog.main.body) (fun s => PySem.W.xlAt q [] s && PySem.W.recOk r.toRowW.records s) s.abs) = some (PySem.W.openGood q loose))
    (hF : ∀ l ∈ fs, ∀ os : OsState, (HandSHeadRun.endF (HandSHeadRun.stepQ (HandSHeadRun.denQ HandSHeadRun.tabQ) r.prog w) M r.prog w os).map (fun s => l.all fun f => f (kOf n s)) = some true)
    (hD : ∀ os : OsState, (HandSHeadRun.endF (HandSHeadRun.stepQ (HandSHeadRun.denQ HandSHeadRun.tabQ) r.prog w) M r.prog w os).map (fun s => (fn.all fun d => d.ok (kOf n s), fn.map fun d => d.obs (kOf n s))) = some (true, fn.map DefE.val)) :
    HandSHeadRun.RunEq r q (hook2 n fs fn) (ob2 n fs fn) M loose w := fun os => by
  obtain ⟨s, hs, h1⟩ := Option.map_eq_some_iff.mp (hA os)
  have h2 := hB os
  have h4 := hD os
  rw [hs] at h2 h4 ⊢
  have h2 := Option.some.inj h2
  have h4 := Option.some.inj h4
  have h3 : (fs.all fun l => l.all fun f => f (kOf n s)) = true := List.all_eq_true.mpr fun l hl => by
    have h3 := hF l hl os
    rw [hs] at h3
    exact Option.some.inj h3
  have h4a := congrArg Prod.fst h4
  have h4b := congrArg Prod.snd h4
  have h5 : ob2 n fs fn s = val2 fn := by
    show (((fs.all fun l => l.all fun f => f (kOf n s)) && fn.all fun d => d.ok (kOf n s), fn.map fun d => d.obs (kOf n s)) : Al2) = (true, fn.map DefE.val)
    rw [h3, show (fn.all fun d => d.ok (kOf n s)) = true from h4a, show (fn.map fun d => d.obs (kOf n s)) = fn.map DefE.val from h4b]
    rfl
  exact congrArg some (Prod.ext h1 (Prod.ext h2 h5))
section
variable {fs : List (List Ft)} {fn : List DefE} {K : PySem.W.Frag}
theorem Says2.fact (c : Says2 fs fn K) (i j : Nat) {l : List Ft} {f : Ft} (hi : fs[i]? = some l := by rfl) (hj : l[j]? = some f := by rfl) : f K = true := by
  have c1 := (He.ba (show ((fs.all fun l => l.all fun f => f K) && fn.all fun d => d.ok K) = true from congrArg (fun z : Al2 => z.1) c)).1
  exact List.all_eq_true.mp (List.all_eq_true.mp c1 l (List.mem_of_getElem? hi)) f (List.mem_of_getElem? hj)
theorem Says2.def_ (c : Says2 fs fn K) (i : Nat) {d : DefE} (h : fn[i]? = some d := by rfl) :
    ∃ oc od osl kV doc pm an cdv ct, K.lookup (d.ad K) = some ⟨oc, od, .func (PySem.W.fnOf d.name d.qual d.params d.body d.scope .none kV doc pm an cdv ct), osl⟩ ∧ PySem.W.codeIn K cdv d.qual = true := by
  have c2 := (He.ba (show ((fs.all fun l => l.all fun f => f K) && fn.all fun d => d.ok K) = true from congrArg (fun z : Al2 => z.1) c)).2
  have e : fn.map (fun d => d.obs K) = fn.map DefE.val := congrArg (fun z : Al2 => z.2) c
  have e2 : (fn.map fun d => d.obs K)[i]? = (fn.map DefE.val)[i]? := by rw [e]
  rw [List.getElem?_map, List.getElem?_map, h] at e2
  exact DefE.at_ (Option.some.inj e2) (List.all_eq_true.mp c2 d (List.mem_of_getElem? h))
end
/-! ### what a fact names, as a function of the written part -/
def tkG (K : PySem.W.Frag) (x : Str) : Tok := match PySem.W.nsIn K mainGlobals x with
  | some (some (.int _ t)) => t
  | _ => 0
/-- the end, for a law that shows its data, over a head by facts -/
theorem walk_GE {l : PySem.W.OpenLaw} {n k : Nat} {q : Program} {loose : List Str} {XP : (Str → Option Value) → Heap → Prop} {YP : World → Heap → Prop} {d : DefRec} {x : Str}
    (hn : l.most = some n) (hn2 : n ≤ sizeLine) (hdf : d.params.defaults = []) (room : Room k callerA)
    (F : ∀ (w : World) (mg : Str → Option Value) (fa : Addr) (h : Heap), YP w h → h.Ns mainGlobals mg → mg d.name = some (.ref fa) →
      ∃ (K : PySem.W.Frag) (sp : PySem.W.Frag → Sp), K.In h ∧ (∀ (H : Hp) (a : Addr) (ns : List Int), ns.length ≤ n → SqL K H a (ns.map V.int) → sp K [.ref a] H (fun v _ => v = .bl true) fun _ _ _ => False) ∧
        ∃ fd : FuncData, (∀ (s : Shared) (u : Value), BindsTo s fd ⟨[u], []⟩ [(x, u)]) ∧ ∀ base : Heap, K.In base → base.Ns mainGlobals mg → GOk l.prog w K mg base k fa fd [x] (sp K)) :
    PySem.W.WalkO q loose XP YP l.row.toRowW d [] (fun f vs => PySem.call f vs) := by
  refine Att.attach_call hn hdf fun w _ z mg mb fa o pm cd doc a vs ns G Y _ _ _ hmg at_a itsI hlen gens => ?_
  obtain ⟨K, sp, KX, say, fd, hb, hF⟩ := F w mg fa _ Y G.T.g hmg
  exact law_G KX G.T.g G.T.b G.T.builtins G.T.nolimit gens at_a itsI (Nat.le_trans hlen hn2) room hF hb fun H hS => say H a ns hlen hS
/-! ### a dict of the module with texts as keys: its hashes hang on the world -/
/-! ### the same head, with what hangs on the world -/
abbrev Al3 : Type := Al2 × List Int
def obsG3 (n : Nat) (fs : List (List Ft)) (fn : List DefE) (hx : PySem.W.Frag → List Int) (g : Addr → Option Obj) : Al3 := (obs2 fs fn (kG n g), hx (kG n g))
def hook3 (n : Nat) (fs : List (List Ft)) (fn : List DefE) (hx : PySem.W.Frag → List Int) (hv : World → List Int) : PySem.W.Hook where
  α := Al3
  obs := fun s => obsG3 n fs fn hx s.heap.get?
  val := fun w => (val2 fn, hv w)
  says := fun w h => ∃ K : PySem.W.Frag, K.In h ∧ Says2 fs fn K ∧ hx K = hv w
  of := fun _ _ e => ⟨_, He.frG_in, congrArg (fun z : Al3 => z.1) e, congrArg (fun z : Al3 => z.2) e⟩
  keeps := fun _ _ _ ⟨K, hK, c⟩ k => ⟨K, PySem.W.Frag.In.keeps hK k, c⟩
def ob3 (n : Nat) (fs : List (List Ft)) (fn : List DefE) (hx : PySem.W.Frag → List Int) (s : PySem.W.SharedT) : Al3 := obsG3 n fs fn hx (HandSHeadRun.getT s)
theorem ob3_eq {n : Nat} {fs : List (List Ft)} {fn : List DefE} {hx : PySem.W.Frag → List Int} {hv : World → List Int} (s : PySem.W.SharedT) : ob3 n fs fn hx s = (hook3 n fs fn hx hv).obs s.abs := by
  have e : HandSHeadRun.getT s = s.abs.heap.get? := funext (HandSHeadRun.getT_eq s)
  show obsG3 n fs fn hx (HandSHeadRun.getT s) = obsG3 n fs fn hx s.abs.heap.get?
  rw [e]
theorem run_of3 {r : PySem.W.OpenRow} {q : Program} {n M : Nat} {fs : List (List Ft)} {fn : List DefE} {hx : PySem.W.Frag → List Int} {hv : World → List Int} {loose : List Str} {w : World}
    (hA : ∀ os : OsState, (HandSHeadRun.endF (HandSHeadRun.stepQ (HandSHeadRun.denQ HandSHeadRun.tabQ) r.prog w) M r.prog w os).map (fun s => HandSHeadRun.looksF r.prog (PySem.W.boot_heap w.params) s.abs) = some true)
    (hB : ∀ os : OsState, (HandSHeadRun.endF (HandSHeadRun.stepQ (HandSHeadRun.denQ HandSHeadRun.tabQ) r.prog w) M r.prog w os).map (fun s => HandSHeadRun.seenQ q loose (PySem.importedModules r.prog.main.body) (fun s => PySem.W.xlAt q [] s && PySem.W.recOk r.toRowW.records s) s.abs) = some (PySem.W.openGood q loose))
    (hF : ∀ l ∈ fs, ∀ os : OsState, (HandSHeadRun.endF (HandSHeadRun.stepQ (HandSHeadRun.denQ HandSHeadRun.tabQ) r.prog w) M r.prog w os).map (fun s => l.all fun f => f (kOf n s)) = some true)
    (hD : ∀ os : OsState, (HandSHeadRun.endF (HandSHeadRun.stepQ (HandSHeadRun.denQ HandSHeadRun.tabQ) r.prog w) M r.prog w os).map (fun s => ((fn.all fun d => d.ok (kOf n s), fn.map fun d => d.obs (kOf n s)), hx (kOf n s))) = some ((true, fn.map DefE.val), hv w)) :
    HandSHeadRun.RunEq r q (hook3 n fs fn hx hv) (ob3 n fs fn hx) M loose w := fun os => by
  have hR := run_of (fn := fn) hA hB hF (fun os => by
    obtain ⟨s, hs, h1⟩ := Option.map_eq_some_iff.mp (hD os)
    rw [hs]
    exact congrArg some (congrArg (fun z => z.1) h1)) os
  obtain ⟨s, hs, h1⟩ := Option.map_eq_some_iff.mp (hA os)
  have h4 := hD os
  rw [hs] at hR h4 ⊢
  have h4 := congrArg (fun z => z.2) (Option.some.inj h4)
  have h5 := Option.some.inj hR
  have h6 := congrArg (fun z => z.1) h5
  have h7 := congrArg (fun z => z.2.1) h5
  have h8 := congrArg (fun z => z.2.2) h5
  exact congrArg some (Prod.ext h6 (Prod.ext h7 (Prod.ext h8 h4)))
end Ml
namespace Ml
open PySem PySem.Spec PyProof.Rows L2
def topS (i : Nat) : Stmt := PySem.Challenge.pw_mergelevels_k78_texts_of_tables_and_tree.main.body.getD i (.Pass ⟨0, 0, 0, 0⟩)
abbrev s_is_whole : Stmt := topS 6
abbrev N_is_whole : List Str := ["value"]
theorem sc_is_whole : FnScope N_is_whole ["value"] (defScope s_is_whole) := ⟨rfl, rfl, rfl, by decide +kernel, rfl, by decide +kernel, by decide +kernel⟩
abbrev s_is_level : Stmt := topS 7
abbrev N_is_level : List Str := ["value"]
theorem sc_is_level : FnScope N_is_level ["value"] (defScope s_is_level) := ⟨rfl, rfl, rfl, by decide +kernel, rfl, by decide +kernel, by decide +kernel⟩
abbrev s_number_of : Stmt := topS 10
abbrev N_number_of : List Str := ["word", "digits", "number"]
theorem sc_number_of : FnScope N_number_of ["word"] (defScope s_number_of) := ⟨rfl, rfl, rfl, by decide +kernel, rfl, by decide +kernel, by decide +kernel⟩
abbrev s_joined : Stmt := topS 11
abbrev N_joined : List Str := ["numbers", "number"]
theorem sc_joined : FnScope N_joined ["numbers"] (defScope s_joined) := ⟨rfl, rfl, rfl, by decide +kernel, rfl, by decide +kernel, by decide +kernel⟩
abbrev s_format_table : Stmt := topS 12
abbrev N_format_table : List Str := ["table", "lines", "row"]
theorem sc_format_table : FnScope N_format_table ["table"] (defScope s_format_table) := ⟨rfl, rfl, rfl, by decide +kernel, rfl, by decide +kernel, by decide +kernel⟩
abbrev s_format_tree : Stmt := topS 13
abbrev N_format_tree : List Str := ["tree", "level", "parts", "words", "part"]
theorem sc_format_tree : FnScope N_format_tree ["tree"] (defScope s_format_tree) := ⟨rfl, rfl, rfl, by decide +kernel, rfl, by decide +kernel, by decide +kernel⟩
abbrev s_count_in : Stmt := topS 14
abbrev N_count_in : List Str := ["line", "words", "count"]
theorem sc_count_in : FnScope N_count_in ["line"] (defScope s_count_in) := ⟨rfl, rfl, rfl, by decide +kernel, rfl, by decide +kernel, by decide +kernel⟩
abbrev s_row_in : Stmt := topS 15
abbrev N_row_in : List Str := ["line", "size", "words", "levels", "word", "level"]
theorem sc_row_in : FnScope N_row_in ["line", "size"] (defScope s_row_in) := ⟨rfl, rfl, rfl, by decide +kernel, rfl, by decide +kernel, by decide +kernel⟩
abbrev s_parse_lines : Stmt := topS 16
abbrev N_parse_lines : List Str := ["lines", "count", "rows", "at", "line", "row"]
theorem sc_parse_lines : FnScope N_parse_lines ["lines"] (defScope s_parse_lines) := ⟨rfl, rfl, rfl, by decide +kernel, rfl, by decide +kernel, by decide +kernel⟩
abbrev s_parse_table : Stmt := topS 17
abbrev N_parse_table : List Str := ["value", "lines", "rest", "count", "rows"]
theorem sc_parse_table : FnScope N_parse_table ["value"] (defScope s_parse_table) := ⟨rfl, rfl, rfl, by decide +kernel, rfl, by decide +kernel, by decide +kernel⟩
abbrev s_L_draws : Stmt := topS 19
abbrev N_L_draws : List Str := ["_law_script", "_law_cells", "_law_cell"]
theorem sc_L_draws : FnScope N_L_draws ["_law_script"] (defScope s_L_draws) := ⟨rfl, rfl, rfl, by decide +kernel, rfl, by decide +kernel, by decide +kernel⟩
abbrev s_L_next : Stmt := topS 20
abbrev N_L_next : List Str := ["_law_drawn", "_law_many", "_law_cells", "_law_turn", "_law_rests", "_law_spot", "_law_digit", "_law_mixed", "_law_again"]
theorem sc_L_next : FnScope N_L_next ["_law_drawn", "_law_many"] (defScope s_L_next) := ⟨rfl, rfl, rfl, by decide +kernel, rfl, by decide +kernel, by decide +kernel⟩
abbrev s_L_one : Stmt := topS 21
abbrev N_L_one : List Str := ["_law_drawn", "_law_items"]
theorem sc_L_one : FnScope N_L_one ["_law_drawn", "_law_items"] (defScope s_L_one) := ⟨rfl, rfl, rfl, by decide +kernel, rfl, by decide +kernel, by decide +kernel⟩
abbrev s_L_equal : Stmt := topS 22
abbrev N_L_equal : List Str := ["_law_one_here", "_law_other", "_law_a", "_law_b"]
theorem sc_L_equal : FnScope N_L_equal ["_law_one_here", "_law_other"] (defScope s_L_equal) := ⟨rfl, rfl, rfl, by decide +kernel, rfl, by decide +kernel, by decide +kernel⟩
abbrev s_L_count : Stmt := topS 23
abbrev N_L_count : List Str := ["_law_drawn", "_law_most"]
theorem sc_L_count : FnScope N_L_count ["_law_drawn", "_law_most"] (defScope s_L_count) := ⟨rfl, rfl, rfl, by decide +kernel, rfl, by decide +kernel, by decide +kernel⟩
abbrev s_L_grades : Stmt := topS 24
abbrev N_L_grades : List Str := ["_law_drawn", "_law_way", "_law_many", "_law_wide", "_law_found", "_law_k"]
theorem sc_L_grades : FnScope N_L_grades ["_law_drawn"] (defScope s_L_grades) := ⟨rfl, rfl, rfl, by decide +kernel, rfl, by decide +kernel, by decide +kernel⟩
abbrev s_L_level : Stmt := topS 25
abbrev N_L_level : List Str := ["_law_table_here", "_law_one_here", "_law_other", "_law_low", "_law_high"]
theorem sc_L_level : FnScope N_L_level ["_law_table_here", "_law_one_here", "_law_other"] (defScope s_L_level) := ⟨rfl, rfl, rfl, by decide +kernel, rfl, by decide +kernel, by decide +kernel⟩
abbrev s_L_nested : Stmt := topS 26
abbrev N_L_nested : List Str := ["_law_drawn", "_law_count_here", "_law_grades_here", "_law_rows", "_law_near", "_law_level_here", "_law_row", "_law_k"]
theorem sc_L_nested : FnScope N_L_nested ["_law_drawn", "_law_count_here", "_law_grades_here"] (defScope s_L_nested) := ⟨rfl, rfl, rfl, by decide +kernel, rfl, by decide +kernel, by decide +kernel⟩
abbrev s_L_raised : Stmt := topS 27
abbrev N_L_raised : List Str := ["_law_drawn", "_law_table_here", "_law_grades_here", "_law_found", "_law_row", "_law_level_here"]
theorem sc_L_raised : FnScope N_L_raised ["_law_drawn", "_law_table_here", "_law_grades_here"] (defScope s_L_raised) := ⟨rfl, rfl, rfl, by decide +kernel, rfl, by decide +kernel, by decide +kernel⟩
abbrev s_L_levels : Stmt := topS 28
abbrev N_L_levels : List Str := ["_law_drawn", "_law_many", "_law_grades_here", "_law_k"]
theorem sc_L_levels : FnScope N_L_levels ["_law_drawn", "_law_many", "_law_grades_here"] (defScope s_L_levels) := ⟨rfl, rfl, rfl, by decide +kernel, rfl, by decide +kernel, by decide +kernel⟩
abbrev s_L_any : Stmt := topS 29
abbrev N_L_any : List Str := ["_law_drawn", "_law_many", "_law_wide", "_law_k"]
theorem sc_L_any : FnScope N_L_any ["_law_drawn", "_law_many", "_law_wide"] (defScope s_L_any) := ⟨rfl, rfl, rfl, by decide +kernel, rfl, by decide +kernel, by decide +kernel⟩
abbrev s_L_table : Stmt := topS 30
abbrev N_L_table : List Str := ["_law_drawn", "_law_count_here", "_law_grades_here", "_law_way", "_law_one_here", "_law_wide", "_law_table_here", "_law_other", "_law_level_here", "_law_row"]
theorem sc_L_table : FnScope N_L_table ["_law_drawn", "_law_count_here"] (defScope s_L_table) := ⟨rfl, rfl, rfl, by decide +kernel, rfl, by decide +kernel, by decide +kernel⟩
abbrev s_L_parts : Stmt := topS 31
abbrev N_L_parts : List Str := ["_law_table_here", "_law_items", "_law_head", "_law_left", "_law_found", "_law_most", "_law_near", "_law_item"]
theorem sc_L_parts : FnScope N_L_parts ["_law_table_here", "_law_items"] (defScope s_L_parts) := ⟨rfl, rfl, rfl, by decide +kernel, rfl, by decide +kernel, by decide +kernel⟩
abbrev s_L_tree_text : Stmt := topS 32
abbrev N_L_tree_text : List Str := ["_law_tree", "_law_part"]
theorem sc_L_tree_text : FnScope N_L_tree_text ["_law_tree"] (defScope s_L_tree_text) := ⟨rfl, rfl, rfl, by decide +kernel, rfl, by decide +kernel, by decide +kernel⟩
abbrev s_L_table_text : Stmt := topS 33
abbrev N_L_table_text : List Str := ["_law_table_here", "_law_words", "_law_row", "_law_level_here"]
theorem sc_L_table_text : FnScope N_L_table_text ["_law_table_here"] (defScope s_L_table_text) := ⟨rfl, rfl, rfl, by decide +kernel, rfl, by decide +kernel, by decide +kernel⟩
abbrev s_L_ladder : Stmt := topS 34
abbrev N_L_ladder : List Str := ["_law_drawn", "_law_count_here", "_law_rows", "_law_level_here", "_law_number"]
theorem sc_L_ladder : FnScope N_L_ladder ["_law_drawn", "_law_count_here"] (defScope s_L_ladder) := ⟨rfl, rfl, rfl, by decide +kernel, rfl, by decide +kernel, by decide +kernel⟩
abbrev s_L_table_right : Stmt := topS 35
abbrev N_L_table_right : List Str := ["_law_table_here", "_law_shown", "_law_words", "_law_again"]
theorem sc_L_table_right : FnScope N_L_table_right ["_law_table_here"] (defScope s_L_table_right) := ⟨rfl, rfl, rfl, by decide +kernel, rfl, by decide +kernel, by decide +kernel⟩
abbrev s_L_tree_right : Stmt := topS 36
abbrev N_L_tree_right : List Str := ["_law_known", "_law_tree", "_law_shown", "_law_words"]
theorem sc_L_tree_right : FnScope N_L_tree_right ["_law_known"] (defScope s_L_tree_right) := ⟨rfl, rfl, rfl, by decide +kernel, rfl, by decide +kernel, by decide +kernel⟩
abbrev s_law : Stmt := topS 37
abbrev N_law : List Str := ["_law_script", "_law_drawn", "_law_some", "_law_turn", "_law_count_here", "_law_table_here", "_law_known", "_law_one_here", "_law_other"]
theorem sc_law : FnScope N_law ["_law_script"] (defScope s_law) := ⟨rfl, rfl, rfl, by decide +kernel, rfl, by decide +kernel, by decide +kernel⟩
def hfs0 : List Ft := [
  fun K => decide (PySem.W.nsIn K mainGlobals "is_whole" = some (some (.ref (He.ga K "is_whole")))),
  fun K => PySem.W.keepIn K (.ref (He.ga K "is_whole")),
  fun K => decide (PySem.W.nsIn K mainGlobals "is_level" = some (some (.ref (He.ga K "is_level")))),
  fun K => PySem.W.keepIn K (.ref (He.ga K "is_level")),
  fun K => decide (PySem.W.nsIn K mainGlobals "number_of" = some (some (.ref (He.ga K "number_of")))),
  fun K => PySem.W.keepIn K (.ref (He.ga K "number_of")),
  fun K => decide (PySem.W.nsIn K mainGlobals "joined" = some (some (.ref (He.ga K "joined")))),
  fun K => PySem.W.keepIn K (.ref (He.ga K "joined")),
  fun K => decide (PySem.W.nsIn K mainGlobals "format_table" = some (some (.ref (He.ga K "format_table")))),
  fun K => PySem.W.keepIn K (.ref (He.ga K "format_table")),
  fun K => decide (PySem.W.nsIn K mainGlobals "format_tree" = some (some (.ref (He.ga K "format_tree")))),
  fun K => PySem.W.keepIn K (.ref (He.ga K "format_tree")),
  fun K => decide (PySem.W.nsIn K mainGlobals "count_in" = some (some (.ref (He.ga K "count_in")))),
  fun K => PySem.W.keepIn K (.ref (He.ga K "count_in")),
  fun K => decide (PySem.W.nsIn K mainGlobals "row_in" = some (some (.ref (He.ga K "row_in")))),
  fun K => PySem.W.keepIn K (.ref (He.ga K "row_in")),
  fun K => decide (PySem.W.nsIn K mainGlobals "parse_lines" = some (some (.ref (He.ga K "parse_lines")))),
  fun K => PySem.W.keepIn K (.ref (He.ga K "parse_lines")),
  fun K => decide (PySem.W.nsIn K mainGlobals "parse_table" = some (some (.ref (He.ga K "parse_table")))),
  fun K => PySem.W.keepIn K (.ref (He.ga K "parse_table")),
  fun K => decide (PySem.W.nsIn K mainGlobals "_law_draws" = some (some (.ref (He.ga K "_law_draws")))),
  fun K => PySem.W.keepIn K (.ref (He.ga K "_law_draws")),
  fun K => decide (PySem.W.nsIn K mainGlobals "_law_next" = some (some (.ref (He.ga K "_law_next")))),
  fun K => PySem.W.keepIn K (.ref (He.ga K "_law_next")),
  fun K => decide (PySem.W.nsIn K mainGlobals "_law_one" = some (some (.ref (He.ga K "_law_one")))),
  fun K => PySem.W.keepIn K (.ref (He.ga K "_law_one")),
  fun K => decide (PySem.W.nsIn K mainGlobals "_law_equal" = some (some (.ref (He.ga K "_law_equal")))),
  fun K => PySem.W.keepIn K (.ref (He.ga K "_law_equal")),
  fun K => decide (PySem.W.nsIn K mainGlobals "_law_count" = some (some (.ref (He.ga K "_law_count")))),
  fun K => PySem.W.keepIn K (.ref (He.ga K "_law_count"))]
def hfs1 : List Ft := [
  fun K => decide (PySem.W.nsIn K mainGlobals "_law_grades" = some (some (.ref (He.ga K "_law_grades")))),
  fun K => PySem.W.keepIn K (.ref (He.ga K "_law_grades")),
  fun K => decide (PySem.W.nsIn K mainGlobals "_law_level" = some (some (.ref (He.ga K "_law_level")))),
  fun K => PySem.W.keepIn K (.ref (He.ga K "_law_level")),
  fun K => decide (PySem.W.nsIn K mainGlobals "_law_nested" = some (some (.ref (He.ga K "_law_nested")))),
  fun K => PySem.W.keepIn K (.ref (He.ga K "_law_nested")),
  fun K => decide (PySem.W.nsIn K mainGlobals "_law_raised" = some (some (.ref (He.ga K "_law_raised")))),
  fun K => PySem.W.keepIn K (.ref (He.ga K "_law_raised")),
  fun K => decide (PySem.W.nsIn K mainGlobals "_law_levels" = some (some (.ref (He.ga K "_law_levels")))),
  fun K => PySem.W.keepIn K (.ref (He.ga K "_law_levels")),
  fun K => decide (PySem.W.nsIn K mainGlobals "_law_any" = some (some (.ref (He.ga K "_law_any")))),
  fun K => PySem.W.keepIn K (.ref (He.ga K "_law_any")),
  fun K => decide (PySem.W.nsIn K mainGlobals "_law_table" = some (some (.ref (He.ga K "_law_table")))),
  fun K => PySem.W.keepIn K (.ref (He.ga K "_law_table")),
  fun K => decide (PySem.W.nsIn K mainGlobals "_law_parts" = some (some (.ref (He.ga K "_law_parts")))),
  fun K => PySem.W.keepIn K (.ref (He.ga K "_law_parts")),
  fun K => decide (PySem.W.nsIn K mainGlobals "_law_tree_text" = some (some (.ref (He.ga K "_law_tree_text")))),
  fun K => PySem.W.keepIn K (.ref (He.ga K "_law_tree_text")),
  fun K => decide (PySem.W.nsIn K mainGlobals "_law_table_text" = some (some (.ref (He.ga K "_law_table_text")))),
  fun K => PySem.W.keepIn K (.ref (He.ga K "_law_table_text")),
  fun K => decide (PySem.W.nsIn K mainGlobals "_law_ladder" = some (some (.ref (He.ga K "_law_ladder")))),
  fun K => PySem.W.keepIn K (.ref (He.ga K "_law_ladder")),
  fun K => decide (PySem.W.nsIn K mainGlobals "_law_table_right" = some (some (.ref (He.ga K "_law_table_right")))),
  fun K => PySem.W.keepIn K (.ref (He.ga K "_law_table_right")),
  fun K => decide (PySem.W.nsIn K mainGlobals "_law_tree_right" = some (some (.ref (He.ga K "_law_tree_right")))),
  fun K => PySem.W.keepIn K (.ref (He.ga K "_law_tree_right")),
  fun K => decide (PySem.W.nsIn K mainGlobals "law" = some (some (.ref (He.ga K "law")))),
  fun K => PySem.W.keepIn K (.ref (He.ga K "law")),
  fun K => decide (PySem.W.nsIn K mainGlobals "ITEMS" = some (some (.int 12 (tkG K "ITEMS")))),
  fun K => decide (PySem.W.nsIn K mainGlobals "LEVEL" = some (some (.int 1000000000000 (tkG K "LEVEL"))))]
def hfs2 : List Ft := [
  fun K => decide (PySem.W.nsIn K mainGlobals "DIGITS" = some (some (.int 13 (tkG K "DIGITS")))),
  fun K => decide (PySem.W.nsIn K mainGlobals "len" = some none),
  fun K => decide (PySem.W.nsIn K mainGlobals "list" = some none),
  fun K => decide (PySem.W.nsIn K mainGlobals "int" = some none),
  fun K => decide (PySem.W.nsIn K mainGlobals "range" = some none),
  fun K => decide (PySem.W.nsIn K mainGlobals "sorted" = some none),
  fun K => decide (PySem.W.nsIn K mainGlobals "set" = some none),
  fun K => decide (PySem.W.nsIn K mainGlobals "tuple" = some none),
  fun K => decide (PySem.W.nsIn K mainGlobals "min" = some none),
  fun K => decide (PySem.W.nsIn K mainGlobals "max" = some none),
  fun K => decide (PySem.W.nsIn K mainGlobals "isinstance" = some none),
  fun K => decide (PySem.W.nsIn K mainGlobals "bool" = some none),
  fun K => decide (PySem.W.nsIn K mainGlobals "str" = some none),
  fun K => decide (PySem.W.nsIn K mainGlobals "all" = some none),
  fun K => decide (PySem.W.nsIn K mainGlobals "zip" = some none),
  fun K => decide (PySem.W.nsIn K mainGlobals "repr" = some none),
  fun K => decide (PySem.W.nsIn K mainGlobals "enumerate" = some none),
  fun K => decide (PySem.W.nsIn K mainGlobals "abs" = some none),
  fun K => decide (PySem.W.nsIn K mainGlobals "sum" = some none),
  fun K => decide (PySem.W.nsIn K mainGlobals "dict" = some none)]
def hfp0 : List Ft := hfs0 ++ hfs1 ++ hfs2
def hfs : List (List Ft) := [hfp0]
def hfn0 : List DefE := [
  ⟨fun K => (He.ga K "is_whole"), "is_whole", "is_whole", (defArgs s_is_whole), (defBody s_is_whole), (defScope s_is_whole)⟩,
  ⟨fun K => (He.ga K "is_level"), "is_level", "is_level", (defArgs s_is_level), (defBody s_is_level), (defScope s_is_level)⟩,
  ⟨fun K => (He.ga K "number_of"), "number_of", "number_of", (defArgs s_number_of), (defBody s_number_of), (defScope s_number_of)⟩,
  ⟨fun K => (He.ga K "joined"), "joined", "joined", (defArgs s_joined), (defBody s_joined), (defScope s_joined)⟩,
  ⟨fun K => (He.ga K "format_table"), "format_table", "format_table", (defArgs s_format_table), (defBody s_format_table), (defScope s_format_table)⟩,
  ⟨fun K => (He.ga K "format_tree"), "format_tree", "format_tree", (defArgs s_format_tree), (defBody s_format_tree), (defScope s_format_tree)⟩,
  ⟨fun K => (He.ga K "count_in"), "count_in", "count_in", (defArgs s_count_in), (defBody s_count_in), (defScope s_count_in)⟩,
  ⟨fun K => (He.ga K "row_in"), "row_in", "row_in", (defArgs s_row_in), (defBody s_row_in), (defScope s_row_in)⟩,
  ⟨fun K => (He.ga K "parse_lines"), "parse_lines", "parse_lines", (defArgs s_parse_lines), (defBody s_parse_lines), (defScope s_parse_lines)⟩,
  ⟨fun K => (He.ga K "parse_table"), "parse_table", "parse_table", (defArgs s_parse_table), (defBody s_parse_table), (defScope s_parse_table)⟩,
  ⟨fun K => (He.ga K "_law_draws"), "_law_draws", "_law_draws", (defArgs s_L_draws), (defBody s_L_draws), (defScope s_L_draws)⟩,
  ⟨fun K => (He.ga K "_law_next"), "_law_next", "_law_next", (defArgs s_L_next), (defBody s_L_next), (defScope s_L_next)⟩,
  ⟨fun K => (He.ga K "_law_one"), "_law_one", "_law_one", (defArgs s_L_one), (defBody s_L_one), (defScope s_L_one)⟩,
  ⟨fun K => (He.ga K "_law_equal"), "_law_equal", "_law_equal", (defArgs s_L_equal), (defBody s_L_equal), (defScope s_L_equal)⟩,
  ⟨fun K => (He.ga K "_law_count"), "_law_count", "_law_count", (defArgs s_L_count), (defBody s_L_count), (defScope s_L_count)⟩,
  ⟨fun K => (He.ga K "_law_grades"), "_law_grades", "_law_grades", (defArgs s_L_grades), (defBody s_L_grades), (defScope s_L_grades)⟩,
  ⟨fun K => (He.ga K "_law_level"), "_law_level", "_law_level", (defArgs s_L_level), (defBody s_L_level), (defScope s_L_level)⟩,
  ⟨fun K => (He.ga K "_law_nested"), "_law_nested", "_law_nested", (defArgs s_L_nested), (defBody s_L_nested), (defScope s_L_nested)⟩,
  ⟨fun K => (He.ga K "_law_raised"), "_law_raised", "_law_raised", (defArgs s_L_raised), (defBody s_L_raised), (defScope s_L_raised)⟩,
  ⟨fun K => (He.ga K "_law_levels"), "_law_levels", "_law_levels", (defArgs s_L_levels), (defBody s_L_levels), (defScope s_L_levels)⟩,
  ⟨fun K => (He.ga K "_law_any"), "_law_any", "_law_any", (defArgs s_L_any), (defBody s_L_any), (defScope s_L_any)⟩,
  ⟨fun K => (He.ga K "_law_table"), "_law_table", "_law_table", (defArgs s_L_table), (defBody s_L_table), (defScope s_L_table)⟩,
  ⟨fun K => (He.ga K "_law_parts"), "_law_parts", "_law_parts", (defArgs s_L_parts), (defBody s_L_parts), (defScope s_L_parts)⟩,
  ⟨fun K => (He.ga K "_law_tree_text"), "_law_tree_text", "_law_tree_text", (defArgs s_L_tree_text), (defBody s_L_tree_text), (defScope s_L_tree_text)⟩,
  ⟨fun K => (He.ga K "_law_table_text"), "_law_table_text", "_law_table_text", (defArgs s_L_table_text), (defBody s_L_table_text), (defScope s_L_table_text)⟩]
def hfn1 : List DefE := [
  ⟨fun K => (He.ga K "_law_ladder"), "_law_ladder", "_law_ladder", (defArgs s_L_ladder), (defBody s_L_ladder), (defScope s_L_ladder)⟩,
  ⟨fun K => (He.ga K "_law_table_right"), "_law_table_right", "_law_table_right", (defArgs s_L_table_right), (defBody s_L_table_right), (defScope s_L_table_right)⟩,
  ⟨fun K => (He.ga K "_law_tree_right"), "_law_tree_right", "_law_tree_right", (defArgs s_L_tree_right), (defBody s_L_tree_right), (defScope s_L_tree_right)⟩,
  ⟨fun K => (He.ga K "law"), "law", "law", (defArgs s_law), (defBody s_law), (defScope s_law)⟩]
def hfn : List DefE := hfn0 ++ hfn1
def hlo0 : List Str := ["ITEMS", "LEVEL", "__name__", "MergeError", "ParseError", "is_whole", "is_level", "DIGITS", "number_of", "joined", "format_table", "format_tree", "count_in", "row_in", "parse_lines", "parse_table", "_law_draws", "_law_next", "_law_one", "_law_equal", "_law_count", "_law_grades", "_law_level", "_law_nested", "_law_raised"]
def hlo1 : List Str := ["_law_levels", "_law_any", "_law_table", "_law_parts", "_law_tree_text", "_law_table_text", "_law_ladder", "_law_table_right", "_law_tree_right"]
def hlo : List Str := hlo0 ++ hlo1
abbrev hR : PySem.W.OpenRow := PySem.W.OpenLaw.row PySem.Challenge.rw_mergelevels_k78_texts_of_tables_and_tree
def hhx (K : PySem.W.Frag) : List Int := []
def hhv (w : World) : List Int := []
abbrev hk : PySem.W.Hook := hook3 5 hfs hfn hhx hhv
def hq : Program := PySem.W.view hR.prog [37]
set_option maxHeartbeats 0 in
theorem hrA (w : World) (os : OsState) : (HandSHeadRun.endF (HandSHeadRun.stepQ (HandSHeadRun.denQ HandSHeadRun.tabQ) hR.prog w) 20000 hR.prog w os).map (fun s => HandSHeadRun.looksF hR.prog (PySem.W.boot_heap w.params) s.abs) = some true := by kernel_rfl
set_option maxHeartbeats 0 in
theorem hrB (w : World) (os : OsState) : (HandSHeadRun.endF (HandSHeadRun.stepQ (HandSHeadRun.denQ HandSHeadRun.tabQ) hR.prog w) 20000 hR.prog w os).map (fun s => HandSHeadRun.seenQ (PySem.W.view hR.prog [37]) hlo (PySem.importedModules hR.prog.main.body) (fun s => PySem.W.xlAt (PySem.W.view hR.prog [37]) [] s && PySem.W.recOk hR.toRowW.records s) s.abs) = some (PySem.W.openGood (PySem.W.view hR.prog [37]) hlo) := by kernel_rfl
set_option maxHeartbeats 0 in
theorem hrF0 (w : World) (os : OsState) : (HandSHeadRun.endF (HandSHeadRun.stepQ (HandSHeadRun.denQ HandSHeadRun.tabQ) hR.prog w) 20000 hR.prog w os).map (fun s => hfp0.all fun f => f (kOf 5 s)) = some true := by kernel_rfl
set_option maxHeartbeats 0 in
theorem hrD (w : World) (os : OsState) : (HandSHeadRun.endF (HandSHeadRun.stepQ (HandSHeadRun.denQ HandSHeadRun.tabQ) hR.prog w) 20000 hR.prog w os).map (fun s => ((hfn.all fun d => d.ok (kOf 5 s), hfn.map fun d => d.obs (kOf 5 s)), hhx (kOf 5 s))) = some ((true, hfn.map DefE.val), hhv w) := by kernel_rfl
theorem hrun (w : World) : HandSHeadRun.RunEq hR (PySem.W.view hR.prog [37]) hk (ob3 5 hfs hfn hhx) 20000 hlo w := run_of3 (hrA w) (hrB w) (fun l hl => by
  simp only [hfs, List.mem_cons, List.not_mem_nil, or_false] at hl
  rcases hl with rfl
  exact hrF0 w) (hrD w)
/-! ### the names of the module -/
structure Bi (mg : Str → Option Value) : Prop where
  len : mg "len" = none
  list : mg "list" = none
  int : mg "int" = none
  range : mg "range" = none
  sorted : mg "sorted" = none
  set : mg "set" = none
  tuple : mg "tuple" = none
  min : mg "min" = none
  max : mg "max" = none
  isinstance : mg "isinstance" = none
  bool : mg "bool" = none
  str : mg "str" = none
  all : mg "all" = none
  zip : mg "zip" = none
  repr : mg "repr" = none
  enumerate : mg "enumerate" = none
  abs : mg "abs" = none
  sum : mg "sum" = none
  dict : mg "dict" = none
structure Df (K : PySem.W.Frag) (mg : Str → Option Value) (x : Str) (st : Stmt) (f : Addr) (fd : FuncData) (ps : List Str) : Prop where
  F : Fun K x x st f fd
  b : Binds K fd ps []
  g : mg x = some (.ref f)
section
variable {X : Cx} {k : Nat} {f : Addr} {fd : FuncData} {ps : List Str} {sp : Sp} {x : Str} {p pos : Pos} {e : Expr} {es : List Expr} {t : TA} {st : Stmt}
theorem pe_cl (D : Df X.K X.mg x st f fd ps) (G : FnOk X.prog X.w X.K X.mg X.base CX0 k f fd ps sp) (hr : Room k X.A) (ha : PA X (e :: es) t) (hg : Gl X x := by rfl) (hdb : (x == ("__debug__" : Str)) = false := by decide)
    (he : starEach (e :: es) X.env = (false, eval e X.env) :: starEach es X.env := by rfl) (hpl : (backTo pos (starEach es X.env)).any (·.1) = false := by rfl) : PE X (.Call (.Name x p) (e :: es) [] pos) (tCall sp [] E0 t) :=
  pe_call G hr hg D.g D.F.kp D.b .nil pass0 ha hdb he hpl
theorem pe_len {a : Expr} {ta : TE} (B : Bi X.mg) (ha : PE X a ta) (hg : Gl X "len" := by rfl) (he : starEach [a] X.env = (false, eval a X.env) :: starEach [] X.env := by rfl) :
    PE X (.Call (.Name "len" p) [a] [] pos) (tCB (fun xs H Q => ∃ p ys, xs = [.ref p] ∧ (SqL X.K H p ys ∨ SqT X.K H p ys) ∧ Q (.int ys.length) H) (tCons ta tNil)) :=
  pe_callB call_len_seq hg B.len PySem.boot_len (pa_cons ha pa_nil he) (by decide) (by decide) he
end
section
variable {P : Program} {w : World} {K : PySem.W.Frag} {mg : Str → Option Value} {base : Heap}
/-! ### drawing -/
def sp_next : Sp := fun vs H Q _ => ∃ (d c r : Addr) (n : Nat) (m : Int), vs = [.ref d, .int m] ∧ Dr H d c r n ∧ n ≤ 900000 ∧ 0 < m ∧ m ≤ 1000000000000000000000000000000 ∧
  ∀ (H' : Hp) (k : Nat), (k : Int) < m → Dr H' d c r (n + 1) → Kp d r H H' → Q (.int (k : Int)) H'
theorem ok_next {f : Addr} {fd : FuncData} {k : Nat} (F : Fun K "_law_next" "_law_next" s_L_next f fd) (B : Bi mg) : FnOk P w K mg base CX0 (k + 1) f fd ["_law_drawn", "_law_many"] sp_next := by
  refine F.ok sc_L_next (fun vs H Q E h => ?_) (fun cdv A outer s H vs Q E hr h => ?_)
  · obtain ⟨d, c, r, n, m, rfl, _⟩ := h
    rfl
  · obtain ⟨d, c, r, n, m, rfl, hD, hn, hm0, hm1, q⟩ := h
    have nd := sc_L_next.nd
    refine ⟨_, pss_cons (ps_asg (pv 0) (pg_unl rfl (pgs_cons (pg_name (i := 2) nd rfl (.inl rfl)) (pgs_cons (pg_name (i := 3) nd rfl (.inl rfl)) (pgs_cons (pg_name (i := 4) nd rfl (.inl rfl)) pgs_nil)))))
      (pss_cons (ps_set (i := 5) nd rfl (.inl rfl) (pe_op op_mod (pv 3) (pe_len B (pv 2))))
      (pss_cons (ps_asg (pe_op op_add (pv 3) pe_int) (pg_sub (pv 0) pe_int set_list))
      (pss_cons (ps_if (pt_cmpR op_gt (pe_ix ix_list (pv 4) (pv 5) (fun _ _ => rfl)) pe_int (nomark _))
        (pss_cons (ps_set (i := 6) nd rfl (.inl rfl) (pe_op op_mod (pe_ix ix_list (pv 4) (pv 5) (fun _ _ => rfl)) (pv 1)))
        (pss_cons (ps_asg (pe_op op_fdivW (pe_ix ix_list (pv 4) (pv 5) (fun _ _ => rfl)) (pv 1)) (pg_sub (pv 4) (pv 5) set_list))
        (pss_one (ps_ret (pv 6))))) pss_nil)
      (pss_cons (ps_set (i := 7) nd rfl (.inl rfl) (pe_op op_mod (pe_op op_pow (pe_op op_add (pe_op op_add (pe_op op_mod (pe_ix ix_list (pv 2) (pv 5) (fun _ _ => rfl)) pe_int) (pe_op op_mul pe_int (pv 3))) pe_int) pe_int) pe_int))
      (pss_cons (ps_set (i := 8) nd rfl (.inl rfl) (pe_op op_mod (pe_op op_pow (pe_op op_add (pe_op op_add (pv 7) (pe_op op_mul (pe_op op_mul pe_int (pv 3)) (pv 3))) pe_int) pe_int) pe_int))
      (pss_one (ps_ret (pe_op op_mod (pe_op op_mod (pe_op op_add (pe_op op_mul (pv 8) pe_int) (pv 7)) pe_int) (pv 1))))))))), ?_⟩
    obtain ⟨⟨cells, rests, t, hd, hc, hr', hlen, h0, h64, ht, hpos⟩, dc, dr, cr⟩ := hD
    -- the three names
    refine ⟨.ref d, rfl, d, _, rfl, SqL.of hd, rfl, _, _, rfl, _, _, rfl, _, _, rfl, rfl, ?_⟩
    -- the place
    refine ⟨.int (t : Int), rfl, .ref c, rfl, c, _, rfl, .inl (SqL.of hc), _, _, rfl, rfl, by rw [List.length_map]; omega, ?_⟩
    obtain ⟨sp, hsp⟩ : ∃ sp : Nat, sp = t % cells.length := ⟨_, rfl⟩
    have esp : (t : Int) % ((cells.map V.int).length : Int) = (sp : Int) := by rw [List.length_map, hsp]; exact (Int.natCast_emod t cells.length).symm
    have lsp : sp < cells.length := by rw [hsp]; exact Nat.mod_lt _ h0
    have lsr : sp < rests.length := by omega
    dsimp only
    rw [esp]
    -- one more
    refine ⟨.int (t : Int), rfl, _, _, rfl, rfl, .ref d, rfl, d, _, 1, 1, rfl, rfl, hd, rfl, ?_⟩
    generalize hH1 : upd H d (.lst (List.set [.ref c, .int (t : Int), .ref r] 1 (.int ((t : Int) + 1)))) = H1
    have hd1 : H1 d = some (.lst [.ref c, .int ((t + 1 : Nat) : Int), .ref r]) := by rw [← hH1, upd_same]; rfl
    have hc1 : H1 c = some (.lst (cells.map V.int)) := by rw [← hH1, upd_ne dc.symm]; exact hc
    have hr1 : H1 r = some (.lst (rests.map V.int)) := by rw [← hH1, upd_ne dr.symm]; exact hr'
    have k1 : Kp d r H H1 := fun b o e n1 n2 => by rw [← hH1, upd_ne n1]; exact e
    have er := getD_at lsr
    have rAt : atI (rests.map V.int) (sp : Int) = some (.int (rests.getD sp 0)) := atI_nat (map_at er)
    have ec := getD_at lsp
    have cAt : atI (cells.map V.int) (sp : Int) = some (.int (cells.getD sp 0)) := atI_nat (map_at ec)
    refine ⟨.ref r, rfl, .int (sp : Int), rfl, r, _, _, _, rfl, rfl, SqL.of hr1, rAt, _, _, rfl, rfl, _, rfl, ite2 (fun hg => ?_) (fun hg => ?_)⟩
    · have hg : (0 : Int) < rests.getD sp 0 := of_decide_eq_true hg
      refine ⟨.ref r, rfl, .int (sp : Int), rfl, r, _, _, _, rfl, rfl, SqL.of hr1, rAt, .int m, rfl, _, _, rfl, rfl, hm0, ?_⟩
      refine ⟨.ref r, rfl, .int (sp : Int), rfl, r, _, _, _, rfl, rfl, SqL.of hr1, rAt, .int m, rfl, _, _, rfl, rfl, wide_div (b := 128) hm0 (by omega) (by decide) (by decide), ?_⟩
      refine ⟨.ref r, rfl, .int (sp : Int), rfl, r, _, _, sp, rfl, rfl, hr1, ixN_at (by rw [List.length_map]; exact lsr), ?_⟩
      refine ⟨_, rfl, ?_⟩
      have hz := Int.emod_nonneg (rests.getD sp 0) (by omega : m ≠ 0)
      have hl := Int.emod_lt_of_pos (rests.getD sp 0) hm0
      dsimp only
      rw [show rests.getD sp 0 % m = ((rests.getD sp 0 % m).toNat : Int) from (Int.toNat_of_nonneg hz).symm]
      refine q _ _ (by omega) ⟨⟨cells, rests.set sp (rests.getD sp 0 / m), t + 1, ?_, ?_, ?_, ?_, h0, h64, by omega, ?_⟩, dc, dr, cr⟩ ?_
      · rw [upd_ne dr]; exact hd1
      · rw [upd_ne cr]; exact hc1
      · rw [upd_same, List.map_set]
      · rw [List.length_set]; exact hlen
      · intro x hx
        rcases List.mem_or_eq_of_mem_set hx with hx | hx
        · exact hpos x hx
        · rw [hx]; exact Int.ediv_nonneg (Int.le_of_lt hg) (Int.le_of_lt hm0)
      · intro b o e n1 n2
        rw [upd_ne n2]
        exact k1 b o e n1 n2
    · have ht6 : t ≤ 900000 := Nat.le_trans ht hn
      have htt : t * t ≤ 900000 * 900000 := Nat.mul_le_mul ht6 ht6
      have httI : (t : Int) * (t : Int) ≤ 900000 * 900000 := Int.mul_le_mul (by omega) (by omega) (by omega) (by omega)
      have htt0 : (0 : Int) ≤ (t : Int) * (t : Int) := Int.mul_nonneg (by omega) (by omega)
      have c0 := Int.emod_nonneg (cells.getD sp 0) (show (2147483629 : Int) ≠ 0 by decide)
      have c1 := Int.emod_lt_of_pos (cells.getD sp 0) (show (0 : Int) < 2147483629 by decide)
      refine ⟨.ref c, rfl, .int (sp : Int), rfl, c, _, _, _, rfl, rfl, SqL.of hc1, cAt, _, _, rfl, rfl, (by show (0 : Int) < 2147483629; decide), .int (t : Int), rfl, _, _, rfl, rfl, .inl ⟨by decide, by decide⟩, _, _, rfl, rfl, _, _, rfl, rfl, _, _, rfl, rfl, ⟨by decide, by decide, by omega⟩, _, _, rfl, rfl, (by show (0 : Int) < 2147483587; decide), ?_⟩
      generalize hX : (cells.getD sp 0 % 2147483629 + 48611 * (t : Int) + 12007) ^ ((3 : Int).toNat) = X3
      have m0 := Int.emod_nonneg X3 (show (2147483587 : Int) ≠ 0 by decide)
      have m1 := Int.emod_lt_of_pos X3 (show (0 : Int) < 2147483587 by decide)
      have e3 : 6007 * (t : Int) * (t : Int) = 6007 * ((t : Int) * (t : Int)) := Int.mul_assoc _ _ _
      refine ⟨.int (X3 % 2147483587), rfl, .int (t : Int), rfl, _, _, rfl, rfl, .inl ⟨by decide, by decide⟩, .int (t : Int), rfl, _, _, rfl, rfl, .inr ⟨by omega, by omega⟩, _, _, rfl, rfl, _, _, rfl, rfl, _, _, rfl, rfl, ⟨by decide, by decide, by omega⟩, _, _, rfl, rfl, (by show (0 : Int) < 2147483563; decide), ?_⟩
      generalize hY : (X3 % 2147483587 + 6007 * (t : Int) * (t : Int) + 53) ^ ((3 : Int).toNat) = Y3
      refine ⟨.int (Y3 % 2147483563), rfl, _, _, rfl, rfl, .inr ⟨by decide, by decide⟩, .int (X3 % 2147483587), rfl, _, _, rfl, rfl, _, _, rfl, rfl, (by show (0 : Int) < 4611686018427387847; decide), .int m, rfl, _, _, rfl, rfl, hm0, ?_⟩
      generalize hZ : (Y3 % 2147483563 * 2147483423 + X3 % 2147483587) % 4611686018427387847 = Z
      have hz := Int.emod_nonneg Z (by omega : m ≠ 0)
      have hl := Int.emod_lt_of_pos Z hm0
      dsimp only
      rw [show Z % m = ((Z % m).toNat : Int) from (Int.toNat_of_nonneg hz).symm]
      exact q _ _ (by omega) ⟨⟨cells, rests, t + 1, hd1, hc1, hr1, hlen, h0, h64, by omega, hpos⟩, dc, dr, cr⟩ k1
end
section
variable {P : Program} {w : World} {K : PySem.W.Frag} {mg : Str → Option Value} {base : Heap}
def sp_one (K : PySem.W.Frag) : Sp := fun vs H Q _ => ∃ (d c r : Addr) (n : Nat) (l : Addr) (xs : List V), vs = [.ref d, .ref l] ∧ Dr H d c r n ∧ n ≤ 900000 ∧ SqL K H l xs ∧ l ≠ d ∧ l ≠ r ∧ 0 < xs.length ∧ xs.length ≤ 1000 ∧
  ∀ (H' : Hp) (i : Nat) (v : V), xs[i]? = some v → Dr H' d c r (n + 1) → Kp d r H H' → Q v H'
theorem ok_one {f fN : Addr} {fd fdN : FuncData} (F : Fun K "_law_one" "_law_one" s_L_one f fd) (DN : Df K mg "_law_next" s_L_next fN fdN ["_law_drawn", "_law_many"]) (B : Bi mg) : FnOk P w K mg base CX0 2 f fd ["_law_drawn", "_law_items"] (sp_one K) := by
  have GN : FnOk P w K mg base CX0 1 fN fdN ["_law_drawn", "_law_many"] sp_next := ok_next DN.F B
  refine F.ok sc_L_one (fun vs H Q E h => ?_) (fun cdv A outer s H vs Q E hr h => ?_)
  · obtain ⟨d, c, r, n, l, xs, rfl, _⟩ := h
    rfl
  · obtain ⟨d, c, r, n, l, xs, rfl, hD, hn, hl, ld, lr, h0, h1, q⟩ := h
    refine ⟨_, pss_one (ps_ret (pe_ix ix_list (pv 1) (pe_cl DN GN hr (pa_cons (pv 0) (pa_cons (pe_len B (pv 1)) pa_nil))) (fun _ _ => rfl))), ?_⟩
    refine ⟨.ref l, rfl, .ref d, rfl, .ref l, rfl, l, xs, rfl, .inl hl, d, c, r, n, _, rfl, hD, hn, by omega, by omega, fun H' k hk hD' kp => ?_⟩
    have hk' : k < xs.length := by omega
    exact ⟨l, xs, k, xs[k], rfl, rfl, kp.sqL ld lr hl, atI_nat (List.getElem?_eq_getElem hk'), q H' k _ (List.getElem?_eq_getElem hk') hD' kp⟩
/-! ### a count -/
def sp_count : Sp := fun vs H Q _ => ∃ (d c r : Addr) (n : Nat) (m : Int), vs = [.ref d, .int m] ∧ Dr H d c r n ∧ n ≤ 800000 ∧ 1 ≤ m ∧ m ≤ 1000 ∧
  ∀ (H' : Hp) (k : Nat), 1 ≤ k → (k : Int) ≤ m → Dr H' d c r (n + 3) → Kp d r H H' → Q (.int (k : Int)) H'
theorem ok_count {f fN : Addr} {fd fdN : FuncData} (F : Fun K "_law_count" "_law_count" s_L_count f fd) (DN : Df K mg "_law_next" s_L_next fN fdN ["_law_drawn", "_law_many"]) (B : Bi mg) : FnOk P w K mg base CX0 2 f fd ["_law_drawn", "_law_most"] sp_count := by
  have GN : FnOk P w K mg base CX0 1 fN fdN ["_law_drawn", "_law_many"] sp_next := ok_next DN.F B
  refine F.ok sc_L_count (fun vs H Q E h => ?_) (fun cdv A outer s H vs Q E hr h => ?_)
  · obtain ⟨d, c, r, n, m, rfl, _⟩ := h
    rfl
  · obtain ⟨d, c, r, n, m, rfl, hD, hn, h1, h2, q⟩ := h
    refine ⟨_, pss_one (ps_ret (pe_ix ix_list (pe_lst (pa_cons (pv 1) (pa_cons (pe_op op_add pe_int (pe_cl DN GN hr (pa_cons (pv 0) (pa_cons (pv 1) pa_nil))))
      (pa_cons (pe_op op_add pe_int (pe_cl DN GN hr (pa_cons (pv 0) (pa_cons (pe_callB (call_min2 rfl) (by rfl) B.min (by decide +kernel) (pa_cons (pv 1) (pa_cons pe_int pa_nil))) pa_nil)))) pa_nil))))
      (pe_cl DN GN hr (pa_cons (pv 0) (pa_cons pe_int pa_nil))) (fun _ _ => rfl))), ?_⟩
    refine ⟨.int m, rfl, .ref d, rfl, .int m, rfl, d, c, r, n, m, rfl, hD, by omega, by omega, by omega, fun H1 k1 l1 D1 kp1 => ?_⟩
    refine ⟨_, _, rfl, rfl, .ref d, rfl, .int m, rfl, _, _, rfl, d, c, r, n + 1, _, rfl, D1, by omega, ?_, ?_, fun H2 k2 l2 D2 kp2 => ?_⟩
    · split <;> omega
    · split <;> omega
    refine ⟨_, _, rfl, rfl, (by show 3 ≤ sizeLine; decide), fun p hp => ?_⟩
    have kp12 := kp1.trans kp2
    refine ⟨.ref d, rfl, d, c, r, n + 2, 3, rfl, D2.new hp, by omega, by decide, by decide, fun H3 k3 l3 D3 kp3 => ?_⟩
    have np := D2.ne hp
    have hp3 : H3 p = _ := kp3 p _ upd_same np.1 np.2.2
    have kp : Kp d r H H3 := kp12.trans ((Kp.new hp).trans kp3)
    have lm : (if (4 : Int) < m then (4 : Int) else m) ≤ m := by split <;> omega
    match k3, l3 with
    | 0, _ => exact ⟨p, _, 0, .int m, rfl, rfl, SqL.of hp3, rfl, by rw [show m = (m.toNat : Int) from (Int.toNat_of_nonneg (by omega)).symm]; exact q H3 m.toNat (by omega) (by omega) D3 kp⟩
    | 1, _ => exact ⟨p, _, 1, .int (1 + (k1 : Int)), rfl, rfl, SqL.of hp3, rfl, by rw [show 1 + (k1 : Int) = ((1 + k1 : Nat) : Int) by omega]; exact q H3 (1 + k1) (by omega) (by omega) D3 kp⟩
    | 2, _ => exact ⟨p, _, 2, .int (1 + (k2 : Int)), rfl, rfl, SqL.of hp3, rfl, by rw [show 1 + (k2 : Int) = ((1 + k2 : Nat) : Int) by omega]; exact q H3 (1 + k2) (by omega) (by omega) D3 kp⟩
    | k + 3, l3 => omega
end
section
variable {P : Program} {w : World} {K : PySem.W.Frag} {mg : Str → Option Value} {base : Heap}
/-! ### levels to choose from -/
def GrOk (ns : List Int) : Prop := 0 < ns.length ∧ ns.length ≤ 8 ∧ ∀ x ∈ ns, LvOk x
def sp_grades : Sp := fun vs H Q _ => ∃ (d c r : Addr) (n : Nat), vs = [.ref d] ∧ Dr H d c r n ∧ n ≤ 800000 ∧
  ∀ (H' : Hp) (g : Addr) (ns : List Int), H g = none → H' g = some (.lst (ns.map V.int)) → GrOk ns → Dr H' d c r (n + 9) → Kp d r H H' → g ≠ d → g ≠ c → g ≠ r → Q (.ref g) H'
theorem ok_grades {f fN : Addr} {fd fdN : FuncData} (F : Fun K "_law_grades" "_law_grades" s_L_grades f fd) (DN : Df K mg "_law_next" s_L_next fN fdN ["_law_drawn", "_law_many"]) (B : Bi mg) : FnOk P w K mg base CX0 2 f fd ["_law_drawn"] sp_grades := by
  have GN : FnOk P w K mg base CX0 1 fN fdN ["_law_drawn", "_law_many"] sp_next := ok_next DN.F B
  refine F.ok sc_L_grades (fun vs H Q E h => ?_) (fun cdv A outer s H vs Q E hr h => ?_)
  · obtain ⟨d, c, r, n, rfl, _⟩ := h
    rfl
  · obtain ⟨d, c, r, n, rfl, hD, hn, q⟩ := h
    have nd := sc_L_grades.nd
    refine ⟨_, pss_cons (ps_par (i := 1) (j := 2) rfl nd rfl rfl (by decide) rfl rfl (pa_cons (pe_cl DN GN hr (pa_cons (pv 0) (pa_cons pe_int pa_nil))) (pa_cons (pe_op op_add pe_int (pe_cl DN GN hr (pa_cons (pv 0) (pa_cons pe_int pa_nil)))) pa_nil)) rfl)
      (pss_cons (ps_set (i := 3) nd rfl (.inr rfl) (pe_ix ix_list (pe_lst (pa_cons pe_int (pa_cons pe_int (pa_cons pe_int (pa_cons pe_int (pa_cons (pe_op op_pow pe_int pe_int) pa_nil)))))) (pv 1) (fun _ _ => rfl)))
      (pss_cons (ps_setLc (i := 4) (own := [("_law_k", 5)]) (g := gName 5) (tt := tYes) rfl nd rfl rfl (sw_true rfl rfl rfl (by decide +kernel)) (pi_range1 rfl B.range (pa_cons (pv 2) pa_nil)) (blkOk_by (N := N_L_grades) (sc := defScope s_L_grades) (by decide +kernel))
        (fun _ _ _ _ _ => pg_name (i := 5) nd rfl (.inl rfl)) (fun _ _ _ _ _ => pts_nil)
        (fun _ _ _ _ _ => pe_op op_add pe_int (pe_cl DN GN hr (pa_cons (pv 0) (pa_cons (pv 3) pa_nil)))))
      (pss_one (ps_ret (pe_callB (cr_sortedSet rfl) (by rfl) B.sorted (by decide +kernel) (pa_cons (pe_callTy (cr_setL1 rfl) (by rfl) B.set (by decide +kernel)
        (pa_cons (pe_op op_cat (pv 4) (pe_op op_rep (pe_lst (pa_cons (pe_op op_pow pe_int pe_int) pa_nil)) (pe_callTy call_int1 (by rfl) B.int (by decide +kernel) (pa_cons (pe_cmpR op_eq (pe_cl DN GN hr (pa_cons (pv 0) (pa_cons pe_int pa_nil))) pe_int (nomark _)) pa_nil)))) pa_nil)) pa_nil)))))), ?_⟩
    refine ⟨.ref d, rfl, d, c, r, n, 5, rfl, hD, by omega, by decide, by decide, fun H1 k1 l1 D1 kp1 => ?_⟩
    refine ⟨.ref d, rfl, d, c, r, n + 1, 6, rfl, D1, by omega, by decide, by decide, fun H2 k2 l2 D2 kp2 => ?_⟩
    refine ⟨_, _, rfl, rfl, _, _, rfl, ?_⟩
    have kp12 := kp1.trans kp2
    -- wide
    refine ⟨_, _, rfl, rfl, ⟨by decide, by decide, by decide⟩, (by show 5 ≤ sizeLine; decide), fun p hp => ?_⟩
    have D3 : Dr (upd H2 p (.lst [.int 2, .int 4, .int 12, .int 100, .int (10 ^ (12 : Int).toNat)])) d c r (n + 2) := D2.new hp
    obtain ⟨wd, hwd, w0, w1⟩ : ∃ wd : Int, atI [V.int 2, .int 4, .int 12, .int 100, .int (10 ^ (12 : Int).toNat)] (k1 : Int) = some (.int wd) ∧ 0 < wd ∧ wd ≤ 1000000000000 := by
      match k1, l1 with
      | 0, _ => exact ⟨2, rfl, by decide, by decide⟩
      | 1, _ => exact ⟨4, rfl, by decide, by decide⟩
      | 2, _ => exact ⟨12, rfl, by decide, by decide⟩
      | 3, _ => exact ⟨100, rfl, by decide, by decide⟩
      | 4, _ => exact ⟨10 ^ (12 : Int).toNat, rfl, by decide, by decide⟩
      | k + 5, l => omega
    refine ⟨.int (k1 : Int), rfl, p, _, _, _, rfl, rfl, SqL.of upd_same, hwd, ?_⟩
    have kp3 : Kp d r H (upd H2 p (.lst [.int 2, .int 4, .int 12, .int 100, .int (10 ^ (12 : Int).toNat)])) := kp12.trans (Kp.new hp)
    generalize upd H2 p (.lst [.int 2, .int 4, .int 12, .int 100, .int (10 ^ (12 : Int).toNat)]) = H3 at D3 kp3
    -- the found ones
    refine ⟨.int (1 + (k2 : Int)), rfl, _, rfl, by omega, by omega, fun D hDn => lc_range (n := (1 + (k2 : Int)).toNat) (fun i Hx => ∃ ns : List Int, Hx D = some (.lst (ns.map V.int)) ∧ ns.length = i ∧ (∀ x ∈ ns, LvOk x) ∧ Dr Hx d c r (n + 2 + i) ∧ Kp d r H3 Hx) ⟨[], upd_same, rfl, fun x hx => by simp at hx, D3.new hDn, Kp.new hDn⟩ (fun i Hx hi hP => ?_) (fun Hx hP => ?_)⟩
    · obtain ⟨ns, h1, h2, h3, h4, h5⟩ := hP
      refine ⟨rfl, .ref d, rfl, .int wd, rfl, d, c, r, n + 2 + i, wd, rfl, h4, by omega, w0, by omega, fun H4 k4 l4 D4 kp4 => ?_⟩
      have nD := D3.ne hDn
      have hD4 : H4 D = some (.lst (ns.map V.int)) := kp4 D _ h1 nD.1 nD.2.2
      refine ⟨_, _, rfl, rfl, ns.map V.int, hD4, by rw [List.length_map]; exact small1000 (by omega), ns ++ [1 + (k4 : Int)], ?_, by rw [List.length_append, h2]; rfl, ?_, D4.upd nD.1 nD.2.1 nD.2.2, ?_⟩
      · rw [upd_same, List.map_append]; rfl
      · intro x hx
        rcases List.mem_append.mp hx with hx | hx
        · exact h3 x hx
        · rw [List.mem_singleton.mp hx]; exact ⟨by omega, by omega⟩
      · intro b o e n1 n2
        by_cases hb : b = D
        · rw [hb, hDn] at e; cases e
        · rw [upd_ne hb]; exact kp4 b o (h5 b o e n1 n2) n1 n2
    · obtain ⟨ns, h1, h2, h3, h4, h5⟩ := hP
      have nD := D3.ne hDn
      have e2 : (1 + (k2 : Int)).toNat = 1 + k2 := by omega
      rw [e2] at h2 h4
      -- sorted(set(found + [10 ** 12] * int(next == 0)))
      refine ⟨.ref D, rfl, _, _, rfl, rfl, ⟨by decide, by decide, by decide⟩, (by show 1 ≤ sizeLine; decide), fun p5 hp5 => ?_⟩
      refine ⟨.ref d, rfl, d, c, r, n + 2 + (1 + k2), 8, rfl, h4.new hp5, by omega, by decide, by decide, fun H6 k6 l6 D6 kp6 => ?_⟩
      have np5 := h4.ne hp5
      have hp6 : H6 p5 = some (.lst [.int (10 ^ (12 : Int).toNat)]) := kp6 p5 _ upd_same np5.1 np5.2.2
      have hD6 : H6 D = some (.lst (ns.map V.int)) := kp6 D _ (by rw [upd_ne (ne_of_none h1 hp5)]; exact h1) nD.1 nD.2.2
      obtain ⟨kk, ek, ekk⟩ : ∃ kk : Int, (if decide (V.int (k6 : Int) = V.int 0) = true then (1 : Int) else 0) = kk ∧ (kk = 0 ∨ kk = 1) := ⟨_, rfl, by split <;> simp⟩
      refine ⟨rfl, .inr ⟨_, rfl, ?_⟩⟩
      rw [ek]
      refine ⟨p5, kk, _, rfl, rfl, hp6, by omega, by omega, ?_, fun p7 hp7 => ?_⟩
      · show 1 * kk.toNat ≤ sizeLine
        rcases ekk with e | e <;> rw [e] <;> decide
      obtain ⟨ms, em, lm, hm⟩ : ∃ ms : List Int, (List.replicate kk.toNat [V.int (10 ^ (12 : Int).toNat)]).flatten = ms.map V.int ∧ ms.length ≤ 1 ∧ ∀ x ∈ ms, LvOk x := by
        rcases ekk with e | e
        · exact ⟨[], by rw [e]; rfl, by decide, fun x hx => by simp at hx⟩
        · exact ⟨[10 ^ (12 : Int).toNat], by rw [e]; rfl, by decide, fun x hx => by rw [List.mem_singleton.mp hx]; exact ⟨by decide, by decide⟩⟩
      rw [em]
      have hD7 : (upd H6 p7 (.lst (ms.map V.int))) D = some (.lst (ns.map V.int)) := by rw [upd_ne (ne_of_none hD6 hp7)]; exact hD6
      refine ⟨D, p7, _, _, rfl, rfl, hD7, upd_same, ?_, fun p8 hp8 => ?_⟩
      · rw [List.length_map, List.length_map]; exact Nat.le_of_lt (small1000 (by omega))
      rw [← List.map_append]
      refine ⟨p8, ns ++ ms, rfl, SqL.of upd_same, by rw [List.length_append]; omega, fun p9 cn hp9 hcn => ?_⟩
      refine ⟨p9, _, cn, rfl, upd_same, by rw [List.length_append] at hcn; omega, fun out g hsort hmem hlen hg => ?_⟩
      have D7 := D6.new (o := .lst (ms.map V.int)) hp7
      have D8 := D7.new (o := .lst ((ns ++ ms).map V.int)) hp8
      have D9 := D8.new (o := SetO w p9 (fun j => decide (j ∈ ns ++ ms)) cn) hp9
      have D10 := D9.new (o := .lst (out.map V.int)) hg
      have ng := D9.ne hg
      have kpE : Kp d r H _ := kp3.trans (h5.trans ((Kp.new (o := .lst [.int (10 ^ (12 : Int).toNat)]) hp5).trans (kp6.trans ((Kp.new (o := .lst (ms.map V.int)) hp7).trans ((Kp.new (o := .lst ((ns ++ ms).map V.int)) hp8).trans ((Kp.new (o := SetO w p9 (fun j => decide (j ∈ ns ++ ms)) cn) hp9).trans (Kp.new (o := .lst (out.map V.int)) hg)))))))
      have hgH : H g = none := by
        cases e : H g with
        | none => rfl
        | some o =>
          have z := (kp3.trans (h5.trans ((Kp.new (o := .lst [.int (10 ^ (12 : Int).toNat)]) hp5).trans (kp6.trans ((Kp.new (o := .lst (ms.map V.int)) hp7).trans ((Kp.new (o := .lst ((ns ++ ms).map V.int)) hp8).trans (Kp.new (o := SetO w p9 (fun j => decide (j ∈ ns ++ ms)) cn) hp9))))))) g o e ng.1 ng.2.2
          have hg' : upd (upd (upd H6 p7 (.lst (ms.map V.int))) p8 (.lst ((ns ++ ms).map V.int))) p9 (SetO w p9 (fun j => decide (j ∈ ns ++ ms)) cn) g = none := hg
          rw [hg'] at z
          cases z
      have mem : ∀ x, x ∈ out ↔ x ∈ ns ++ ms := fun x => by rw [hmem x]; exact decide_eq_true_iff
      refine q _ g out hgH upd_same ⟨?_, ?_, fun x hx => ?_⟩ (D10.mono (by omega)) kpE ng.1 ng.2.1 ng.2.2
      · have h0 : 0 < ns.length := by omega
        have : ns[0] ∈ out := (mem _).mpr (List.mem_append_left _ (List.getElem_mem h0))
        exact List.length_pos_of_mem this
      · rw [List.length_append] at hcn
        omega
      · rcases List.mem_append.mp ((mem x).mp hx) with hx | hx
        · exact h3 x hx
        · exact hm x hx
end
section
variable {P : Program} {w : World} {K : PySem.W.Frag} {mg : Str → Option Value} {base : Heap}
/-! ### the level between two -/
theorem min_nat (i j : Nat) : (if (j : Int) < (i : Int) then (j : Int) else (i : Int)) = ((min i j : Nat) : Int) := by
  split <;> omega
theorem max_nat (i j : Nat) : (if (j : Int) > (i : Int) then (j : Int) else (i : Int)) = ((max i j : Nat) : Int) := by
  split <;> omega
def sp_level (K : PySem.W.Frag) : Sp := fun vs H Q _ => ∃ (a : Addr) (xs : List V) (t : List (List Int)) (i j : Nat), vs = [.ref a, .int (i : Int), .int (j : Int)] ∧ (SqL K H a xs ∨ SqT K H a xs) ∧ Rows K H xs t ∧ WT t ∧ i < t.length ∧ j < t.length ∧ Q (.int (lev t i j)) H
theorem ok_level {f : Addr} {fd : FuncData} {k : Nat} (F : Fun K "_law_level" "_law_level" s_L_level f fd) (B : Bi mg) : FnOk P w K mg base CX0 (k + 1) f fd ["_law_table_here", "_law_one_here", "_law_other"] (sp_level K) := by
  refine F.ok sc_L_level (fun vs H Q E h => ?_) (fun cdv A outer s H vs Q E hr h => ?_)
  · obtain ⟨a, xs, t, i, j, rfl, _⟩ := h
    rfl
  · obtain ⟨a, xs, t, i, j, rfl, hS, hR, hW, hi, hj, q⟩ := h
    have nd := sc_L_level.nd
    refine ⟨_, pss_cons (ps_par (i := 3) (j := 4) rfl nd rfl rfl (by decide) rfl rfl (pa_cons (pe_callB (call_min2 rfl) (by rfl) B.min (by decide +kernel) (pa_cons (pv 1) (pa_cons (pv 2) pa_nil))) (pa_cons (pe_callB (call_max2 rfl) (by rfl) B.max (by decide +kernel) (pa_cons (pv 1) (pa_cons (pv 2) pa_nil))) pa_nil)) rfl)
      (pss_one (ps_ret (pe_ifExp (pt_cmpR op_eq (pv 3) (pv 4) (nomark _)) pe_int (pe_ix ix_tup (pe_ix (IxR.or ix_list ix_tup) (pv 0) (pv 4) (fun _ _ => rfl)) (pv 3) (fun _ _ => rfl))))), ?_⟩
    refine ⟨.int (i : Int), rfl, .int (j : Int), rfl, _, _, rfl, .int (i : Int), rfl, .int (j : Int), rfl, _, _, rfl, _, _, rfl, ?_⟩
    rw [min_nat, max_nat]
    refine ⟨.int ((min i j : Nat) : Int), rfl, .int ((max i j : Nat) : Int), rfl, rfl, _, rfl, ite2 (fun e => ?_) (fun e => ?_)⟩
    · have e1 : ((min i j : Nat) : Int) = ((max i j : Nat) : Int) := V.int.inj (of_decide_eq_true e)
      have e2 : i = j := by omega
      have e3 : lev t i j = 0 := by unfold lev; rw [if_pos e2]
      rw [e3] at q
      exact q
    · have e2 : i ≠ j := fun z => e (decide_eq_true (by rw [z]; simp))
      have hm : max i j < t.length := by omega
      obtain ⟨v, p, hv, rfl, hp⟩ := hR.get hm
      obtain ⟨l1, l2⟩ := hW.row hm
      have hl : min i j < (t.getD (max i j) []).length := by omega
      have e3 : lev t i j = (t.getD (max i j) []).getD (min i j) 0 := by unfold lev; rw [if_neg e2]
      rw [e3] at q
      refine ⟨.ref a, rfl, .int ((max i j : Nat) : Int), rfl, ?_⟩
      rcases hS with hS | hS
      · exact .inl ⟨a, xs, _, _, rfl, rfl, hS, atI_nat hv, .int ((min i j : Nat) : Int), rfl, p, _, _, _, rfl, rfl, hp, atI_nat (map_at (getD_at hl)), q⟩
      · exact .inr ⟨a, xs, _, _, rfl, rfl, hS, atI_nat hv, .int ((min i j : Nat) : Int), rfl, p, _, _, _, rfl, rfl, hp, atI_nat (map_at (getD_at hl)), q⟩
/-! ### nested tables -/
def sp_nestedU (K : PySem.W.Frag) : Sp := fun vs H Q _ => ∃ (d c r : Addr) (n cnt : Nat) (g : Addr) (gs : List Int), vs = [.ref d, .int (cnt : Int), .ref g] ∧ Dr H d c r n ∧ n ≤ 800000 ∧ 1 ≤ cnt ∧ cnt ≤ 20 ∧ SqL K H g (gs.map V.int) ∧ g ≠ d ∧ g ≠ r ∧ GrOk gs ∧
  ∀ (H' : Hp) (v : V) (t : List (List Int)), TT K H' v t → WT t → Ultra t → t.length = cnt → Dr H' d c r (n + 2 * cnt) → Kp d r H H' → Q v H'
theorem ok_nestedU {f fN fO fL : Addr} {fd fdN fdO fdL : FuncData} (F : Fun K "_law_nested" "_law_nested" s_L_nested f fd) (DN : Df K mg "_law_next" s_L_next fN fdN ["_law_drawn", "_law_many"]) (DO : Df K mg "_law_one" s_L_one fO fdO ["_law_drawn", "_law_items"])
    (DL : Df K mg "_law_level" s_L_level fL fdL ["_law_table_here", "_law_one_here", "_law_other"]) (B : Bi mg) : FnOk P w K mg base CX0 3 f fd ["_law_drawn", "_law_count_here", "_law_grades_here"] (sp_nestedU K) := by
  have GN : FnOk P w K mg base CX0 1 fN fdN ["_law_drawn", "_law_many"] sp_next := ok_next DN.F B
  have GO : FnOk P w K mg base CX0 2 fO fdO ["_law_drawn", "_law_items"] (sp_one K) := ok_one DO.F DN B
  have GL : FnOk P w K mg base CX0 1 fL fdL ["_law_table_here", "_law_one_here", "_law_other"] (sp_level K) := ok_level DL.F B
  refine F.ok sc_L_nested (fun vs H Q E h => ?_) (fun cdv A outer s H vs Q E hr h => ?_)
  · obtain ⟨d, c, r, n, cnt, g, gs, rfl, _⟩ := h
    rfl
  · obtain ⟨d, c, r, n, cnt, g, gs, rfl, hD, hn, hc1, hc2, hg, gd, gr, hG, q⟩ := h
    have nd := sc_L_nested.nd
    have hr1 := hr.mono (show 1 ≤ 2 by decide)
    refine ⟨_, pss_cons (ps_set (i := 3) nd rfl (.inr rfl) (pe_lst (pa_cons (pe_tup pa_nil) pa_nil)))
      (pss_cons (ps_while PassesOwn.never (pt_cmpR op_lt (pe_len B (pv 3)) (pv 1) (nomark _))
        (pss_cons (ps_asg (pe_tup (pa_cons (pe_cl DN GN hr1 (pa_cons (pv 0) (pa_cons (pe_len B (pv 3)) pa_nil))) (pa_cons (pe_cl DO GO hr (pa_cons (pv 0) (pa_cons (pv 2) pa_nil))) pa_nil)))
            (pg_tup rfl (pgs_cons (pg_name (i := 4) nd rfl (.inr rfl)) (pgs_cons (pg_name (i := 5) nd rfl (.inr rfl)) pgs_nil))))
        (pss_cons (ps_setLc (i := 6) (own := [("_law_k", 7)]) (g := gName 7) (tt := tYes) rfl nd rfl rfl (sw_true rfl rfl rfl (by decide +kernel)) (pi_range1 rfl B.range (pa_cons (pe_len B (pv 3)) pa_nil)) (blkOk_by (N := N_L_nested) (sc := defScope s_L_nested) (by decide +kernel))
          (fun _ _ _ _ _ => pg_name (i := 7) nd rfl (.inl rfl)) (fun _ _ _ _ _ => pts_nil)
          (fun _ _ _ _ _ => pe_callB (call_max2 rfl) (by rfl) B.max (by decide +kernel) (pa_cons (pv 5) (pa_cons (pe_cl DL GL hr1 (pa_cons (pv 3) (pa_cons (pv 4) (pa_cons (pv 7) pa_nil)))) pa_nil))))
        (pss_one (ps_expr (pe_bm PySem.F.plainAttrs_list PySem.F.slot_list_append PySem.F.type_list_append mt_append (pv 3) (pa_cons (pe_callTy call_tuple_of (by rfl) B.tuple (by decide +kernel) (pa_cons (pv 6) pa_nil)) pa_nil)))))))
      (pss_one (ps_ret (pe_callTy call_tuple_of (by rfl) B.tuple (by decide +kernel) (pa_cons (pv 3) pa_nil))))), ?_⟩
    -- rows = [()]
    refine ⟨Nat.zero_le _, fun p0 hp0 => ⟨(by show 1 ≤ sizeLine; decide), fun rw hrw => ?_⟩⟩
    have D0 := (hD.new (o := .tup []) hp0).new (o := .lst [.ref p0]) hrw
    have k0 : Kp d r H (upd (upd H p0 (.tup [])) rw (.lst [.ref p0])) := (Kp.new hp0).trans (Kp.new hrw)
    have nrw := (hD.new (o := .tup []) hp0).ne hrw
    have hrwH : H rw = none := Sm.free (Sm.new (o := .tup []) hp0) hrw
    refine ⟨fun m σ Hx => ∃ x4 x5 x6 xs t, σ = [some (.ref d), some (.int (cnt : Int)), some (.ref g), some (.ref rw), x4, x5, x6, none] ∧ Hx rw = some (.lst xs) ∧ Rows K Hx xs t ∧ (WT t ∧ Ultra t) ∧ 0 < t.length ∧ t.length ≤ cnt ∧ m = cnt - t.length ∧ Dr Hx d c r (n + 2 * t.length) ∧ Kp d r H Hx,
      ⟨cnt - 1, none, none, none, [.ref p0], [[]], rfl, upd_same, ?_, ?_, by decide, by show 1 ≤ cnt; exact hc1, rfl, D0.mono (by omega), k0⟩, fun m σ Hx hW => ?_⟩
    · refine (Rows.nil.snoc (v := .ref p0) (ns := []) ⟨p0, rfl, SqT.of ?_⟩)
      rw [upd_ne (ne_of_none upd_same hrw)]
      exact upd_same
    · refine ⟨WT.nil.snoc rfl (fun x hx => by simp at hx), fun i j k hi hj hk => ?_⟩
      obtain rfl : i = 0 := by simp at hi; omega
      obtain rfl : j = 0 := by simp at hj; omega
      obtain rfl : k = 0 := by simp at hk; omega
      rw [lev_self]
      decide
    obtain ⟨x4, x5, x6, xs, t, rfl, hx, hR, ⟨hT, hU⟩, ht0, htc, rfl, hDx, hk⟩ := hW
    have hxl : xs.length = t.length := hR.1
    have nD := hDx
    refine ⟨.ref rw, rfl, rw, xs, rfl, .inl (SqL.of hx), .int (cnt : Int), rfl, _, _, rfl, rfl, _, rfl, ite2 (fun e => ?_) (fun e => ?_)⟩
    · have e1 : (xs.length : Int) < (cnt : Int) := of_decide_eq_true e
      have e2 : t.length < cnt := by omega
      refine ⟨fun σ' H' => ∃ x4 x5 x6 xs t', σ' = [some (.ref d), some (.int (cnt : Int)), some (.ref g), some (.ref rw), x4, x5, x6, none] ∧ H' rw = some (.lst xs) ∧ Rows K H' xs t' ∧ (WT t' ∧ Ultra t') ∧ t'.length = t.length + 1 ∧ Dr H' d c r (n + 2 * (t.length + 1)) ∧ Kp d r H H', fun σ' H' hN => ?_, ?_⟩
      · obtain ⟨y4, y5, y6, ys, t', h1, h2, h3, h4, h5, h6, h7⟩ := hN
        exact ⟨cnt - t'.length, by omega, y4, y5, y6, ys, t', h1, h2, h3, h4, by omega, by omega, rfl, by rw [h5]; exact h6, h7⟩
      -- near, level
      refine ⟨.ref d, rfl, .ref rw, rfl, rw, xs, rfl, .inl (SqL.of hx), d, c, r, _, _, rfl, hDx, by omega, by omega, by omega, fun H1 k1 l1 D1 kp1 => ?_⟩
      refine ⟨.ref d, rfl, .ref g, rfl, d, c, r, _, g, gs.map V.int, rfl, D1, by omega, (hk.trans kp1).sqL gd gr hg, gd, gr, by rw [List.length_map]; exact hG.1, by rw [List.length_map]; have := hG.2.1; omega, fun H2 i2 v2 hv2 D2 kp2 => ?_⟩
      obtain ⟨lv, hlv, rfl⟩ : ∃ lv : Int, LvOk lv ∧ v2 = .int lv := by
        rw [List.getElem?_map] at hv2
        cases e3 : gs[i2]? with
        | none => rw [e3] at hv2; cases hv2
        | some z =>
          rw [e3] at hv2
          exact ⟨z, hG.2.2 z (List.mem_of_getElem? e3), (Option.some.inj hv2).symm⟩
      refine ⟨(by show 2 ≤ sizeLine; decide), fun p3 hp3 => ?_⟩
      refine ⟨p3, _, rfl, SqT.of upd_same, rfl, _, _, rfl, _, _, rfl, rfl, ?_⟩
      have kp12 := kp1.trans kp2
      have hx2 : H2 rw = some (.lst xs) := kp12 rw _ hx nrw.1 nrw.2.2
      have R2 : Rows K H2 xs t := hR.kp hDx kp12
      have D3 := D2.new (o := .tup [.int (k1 : Int), .int lv]) hp3
      have R3 : Rows K (upd H2 p3 (.tup [.int (k1 : Int), .int lv])) xs t := R2.same (Sm.new hp3)
      have hx3 : (upd H2 p3 (.tup [.int (k1 : Int), .int lv])) rw = some (.lst xs) := Sm.new hp3 _ _ hx2
      have k3 : Kp d r H (upd H2 p3 (.tup [.int (k1 : Int), .int lv])) := hk.trans (kp12.trans (Kp.new hp3))
      generalize upd H2 p3 (.tup [.int (k1 : Int), .int lv]) = H3 at D3 R3 hx3 k3
      -- row
      refine ⟨.ref rw, rfl, rw, xs, rfl, .inl (SqL.of hx3), _, rfl, by omega, by omega, fun D hDn => lc_range (n := (xs.length : Int).toNat) (fun i Hy => Hy D = some (.lst (((List.range i).map fun k => max lv (lev t k1 k)).map V.int)) ∧ Sm H3 Hy) ⟨upd_same, Sm.new hDn⟩ (fun i Hy hi hP => ?_) (fun Hy hP => ?_)⟩
      · obtain ⟨h1, h4⟩ := hP
        have hi' : i < t.length := by omega
        refine ⟨rfl, .int lv, rfl, .ref rw, rfl, .int (k1 : Int), rfl, .int (0 + (i : Int)), rfl, rw, xs, t, k1, i, by rw [Int.zero_add]; rfl, .inl (SqL.of (h4 _ _ hx3)), R3.same h4, hT, by omega, hi', ?_⟩
        refine ⟨_, _, rfl, _, h1, by simp; exact small1000 (by omega), ?_, ?_⟩
        · rw [upd_same, range_map_succ, List.map_append, show (if lev t k1 i > lv then lev t k1 i else lv) = max lv (lev t k1 i) by split <;> omega]
          rfl
        · intro b o e
          have hb : b ≠ D := ne_of_none e hDn
          rw [upd_ne hb]
          exact h4 b o e
      · obtain ⟨h1, h4⟩ := hP
        have ex : (xs.length : Int).toNat = t.length := by omega
        rw [ex] at h1
        obtain ⟨ns, ens⟩ : ∃ ns, ns = growR t k1 lv := ⟨_, rfl⟩
        have h1 : Hy D = some (.lst (ns.map V.int)) := by rw [ens]; exact h1
        have hk1 : k1 < t.length := by omega
        have h2' : ns.length = t.length := by rw [ens, growR_len]
        have h3 : ∀ x ∈ ns, LvOk x := by rw [ens]; exact growR_ok hT hk1 hlv
        have hU2 : Ultra (t ++ [ns]) := by rw [ens]; exact grow_ultra hT hU hk1 hlv
        have hx4 := h4 _ _ hx3
        -- rows.append(tuple(row))
        refine ⟨.ref rw, rfl, .inl ⟨rfl, _, SqL.of hx4⟩, .ref D, rfl, D, _, rfl, .inl ⟨SqL.of h1, fun p5 hp5 => ?_⟩⟩
        have hx5 : (upd Hy p5 (.tup (ns.map V.int))) rw = some (.lst xs) := Sm.new hp5 _ _ hx4
        refine ⟨rw, _, _, rfl, rfl, hx5, small1000 (by omega), ?_⟩
        have R5 : Rows K (upd Hy p5 (.tup (ns.map V.int))) (xs ++ [.ref p5]) (t ++ [ns]) := ((R3.same h4).same (Sm.new hp5)).snoc ⟨p5, rfl, SqT.of upd_same⟩
        refine ⟨_, _, _, _, _, rfl, upd_same, R5.upd hx5, ⟨hT.snoc h2' h3, hU2⟩, by rw [List.length_append]; rfl, ?_, ?_⟩
        · exact (((D3.same h4).new hp5).upd nrw.1 nrw.2.1 nrw.2.2).mono (by omega)
        · intro b o e n1 n2
          have hb : b ≠ rw := ne_of_none e hrwH
          rw [upd_ne hb]
          exact Sm.new hp5 _ _ (h4 _ _ (k3 b o e n1 n2))
    · have e1 : ¬ (xs.length : Int) < (cnt : Int) := fun z => e (decide_eq_true z)
      have e2 : t.length = cnt := by omega
      refine ⟨.ref rw, rfl, rw, xs, rfl, .inl ⟨SqL.of hx, fun p hp => ?_⟩⟩
      exact q _ _ t ⟨p, xs, rfl, SqT.of upd_same, hR.same (Sm.new hp)⟩ hT hU e2 ((hDx.new hp).mono (by omega)) (hk.trans (Kp.new hp))
def sp_nested (K : PySem.W.Frag) : Sp := fun vs H Q _ => ∃ (d c r : Addr) (n cnt : Nat) (g : Addr) (gs : List Int), vs = [.ref d, .int (cnt : Int), .ref g] ∧ Dr H d c r n ∧ n ≤ 800000 ∧ 1 ≤ cnt ∧ cnt ≤ 20 ∧ SqL K H g (gs.map V.int) ∧ g ≠ d ∧ g ≠ r ∧ GrOk gs ∧
  ∀ (H' : Hp) (v : V) (t : List (List Int)), TT K H' v t → WT t → t.length = cnt → Dr H' d c r (n + 2 * cnt) → Kp d r H H' → Q v H'
theorem ok_nested {f fN fO fL : Addr} {fd fdN fdO fdL : FuncData} (F : Fun K "_law_nested" "_law_nested" s_L_nested f fd) (DN : Df K mg "_law_next" s_L_next fN fdN ["_law_drawn", "_law_many"]) (DO : Df K mg "_law_one" s_L_one fO fdO ["_law_drawn", "_law_items"])
    (DL : Df K mg "_law_level" s_L_level fL fdL ["_law_table_here", "_law_one_here", "_law_other"]) (B : Bi mg) : FnOk P w K mg base CX0 3 f fd ["_law_drawn", "_law_count_here", "_law_grades_here"] (sp_nested K) := by
  refine (ok_nestedU F DN DO DL B).imp (fun vs H Q E h => ?_)
  obtain ⟨d, c, r, n, cnt, g, gs, rfl, hD, hn, hc1, hc2, hg, gd, gr, hG, q⟩ := h
  exact ⟨d, c, r, n, cnt, g, gs, rfl, hD, hn, hc1, hc2, hg, gd, gr, hG, fun H' v t hT hW _ hl D kp => q H' v t hT hW hl D kp⟩
end
section
variable {P : Program} {w : World} {K : PySem.W.Frag} {mg : Str → Option Value} {base : Heap}
/-! ### rows of levels -/
def sp_levels (K : PySem.W.Frag) : Sp := fun vs H Q _ => ∃ (d c r : Addr) (n m : Nat) (g : Addr) (gs : List Int), vs = [.ref d, .int (m : Int), .ref g] ∧ Dr H d c r n ∧ n ≤ 800000 ∧ m ≤ 20 ∧ SqL K H g (gs.map V.int) ∧ g ≠ d ∧ g ≠ r ∧ GrOk gs ∧
  ∀ (H' : Hp) (v : V) (ns : List Int), IT K H' v ns → ns.length = m → (∀ x ∈ ns, LvOk x) → Dr H' d c r (n + m) → Kp d r H H' → Q v H'
theorem gr_at {gs : List Int} {i : Nat} {v : V} (h : ∀ x ∈ gs, LvOk x) (e : (gs.map V.int)[i]? = some v) : ∃ lv : Int, LvOk lv ∧ v = .int lv := by
  rw [List.getElem?_map] at e
  cases e3 : gs[i]? with
  | none => rw [e3] at e; cases e
  | some z =>
    rw [e3] at e
    exact ⟨z, h z (List.mem_of_getElem? e3), (Option.some.inj e).symm⟩
theorem ok_levels {f fN fO : Addr} {fd fdN fdO : FuncData} (F : Fun K "_law_levels" "_law_levels" s_L_levels f fd) (DN : Df K mg "_law_next" s_L_next fN fdN ["_law_drawn", "_law_many"]) (DO : Df K mg "_law_one" s_L_one fO fdO ["_law_drawn", "_law_items"]) (B : Bi mg) :
    FnOk P w K mg base CX0 3 f fd ["_law_drawn", "_law_many", "_law_grades_here"] (sp_levels K) := by
  have GO : FnOk P w K mg base CX0 2 fO fdO ["_law_drawn", "_law_items"] (sp_one K) := ok_one DO.F DN B
  refine F.ok sc_L_levels (fun vs H Q E h => ?_) (fun cdv A outer s H vs Q E hr h => ?_)
  · obtain ⟨d, c, r, n, m, g, gs, rfl, _⟩ := h
    rfl
  · obtain ⟨d, c, r, n, m, g, gs, rfl, hD, hn, hm, hg, gd, gr, hG, q⟩ := h
    have nd := sc_L_levels.nd
    refine ⟨_, pss_one (ps_ret (pe_callTy call_tuple_of (by rfl) B.tuple (by decide +kernel) (pa_cons (pe_lc (own := [("_law_k", 3)]) (g := gName 3) (tt := tYes) rfl nd (pi_range1 rfl B.range (pa_cons (pv 1) pa_nil)) (blkOk_by (N := N_L_levels) (sc := defScope s_L_levels) (by decide +kernel))
      (fun _ _ _ _ _ => pg_name (i := 3) nd rfl (.inl rfl)) (fun _ _ _ _ _ => pts_nil) (fun _ _ _ _ _ => pe_cl DO GO hr (pa_cons (pv 0) (pa_cons (pv 2) pa_nil)))) pa_nil))), ?_⟩
    refine ⟨.int (m : Int), rfl, _, rfl, by omega, by omega, fun D hDn => lc_range (n := (m : Int).toNat) (fun i Hx => ∃ ns : List Int, Hx D = some (.lst (ns.map V.int)) ∧ ns.length = i ∧ (∀ x ∈ ns, LvOk x) ∧ Dr Hx d c r (n + i) ∧ Kp d r H Hx) ⟨[], upd_same, rfl, fun x hx => by simp at hx, hD.new hDn, Kp.new hDn⟩ (fun i Hx hi hP => ?_) (fun Hx hP => ?_)⟩
    · obtain ⟨ns, h1, h2, h3, h4, h5⟩ := hP
      have nD := hD.ne hDn
      refine ⟨rfl, .ref d, rfl, .ref g, rfl, d, c, r, n + i, g, gs.map V.int, rfl, h4, by omega, h5.sqL gd gr hg, gd, gr, by rw [List.length_map]; exact hG.1, by rw [List.length_map]; have := hG.2.1; omega, fun H2 i2 v2 hv2 D2 kp2 => ?_⟩
      obtain ⟨lv, hlv, rfl⟩ := gr_at hG.2.2 hv2
      have hD2 : H2 D = some (.lst (ns.map V.int)) := kp2 D _ h1 nD.1 nD.2.2
      refine ⟨ns.map V.int, hD2, by rw [List.length_map]; exact small1000 (by omega), ns ++ [lv], ?_, by rw [List.length_append, h2]; rfl, ?_, D2.upd nD.1 nD.2.1 nD.2.2, ?_⟩
      · rw [upd_same, List.map_append]; rfl
      · intro x hx
        rcases List.mem_append.mp hx with hx | hx
        · exact h3 x hx
        · rw [List.mem_singleton.mp hx]; exact hlv
      · intro b o e n1 n2
        rw [upd_ne (ne_of_none e hDn)]
        exact kp2 b o (h5 b o e n1 n2) n1 n2
    · obtain ⟨ns, h1, h2, h3, h4, h5⟩ := hP
      have e2 : (m : Int).toNat = m := by omega
      rw [e2] at h2 h4
      refine ⟨D, _, rfl, .inl ⟨SqL.of h1, fun p hp => ?_⟩⟩
      exact q _ _ ns ⟨p, rfl, SqT.of upd_same⟩ h2 h3 (h4.new hp) (h5.trans (Kp.new hp))
def sp_any (K : PySem.W.Frag) : Sp := fun vs H Q _ => ∃ (d c r : Addr) (n m : Nat) (wd : Int), vs = [.ref d, .int (m : Int), .int wd] ∧ Dr H d c r n ∧ n ≤ 800000 ∧ m ≤ 20 ∧ 0 < wd ∧ wd ≤ 1000000000000 ∧
  ∀ (H' : Hp) (v : V) (ns : List Int), IT K H' v ns → ns.length = m → (∀ x ∈ ns, LvOk x) → Dr H' d c r (n + m) → Kp d r H H' → Q v H'
theorem ok_any {f fN : Addr} {fd fdN : FuncData} (F : Fun K "_law_any" "_law_any" s_L_any f fd) (DN : Df K mg "_law_next" s_L_next fN fdN ["_law_drawn", "_law_many"]) (B : Bi mg) :
    FnOk P w K mg base CX0 3 f fd ["_law_drawn", "_law_many", "_law_wide"] (sp_any K) := by
  have GN : FnOk P w K mg base CX0 2 fN fdN ["_law_drawn", "_law_many"] sp_next := ok_next DN.F B
  refine F.ok sc_L_any (fun vs H Q E h => ?_) (fun cdv A outer s H vs Q E hr h => ?_)
  · obtain ⟨d, c, r, n, m, wd, rfl, _⟩ := h
    rfl
  · obtain ⟨d, c, r, n, m, wd, rfl, hD, hn, hm, w0, w1, q⟩ := h
    have nd := sc_L_any.nd
    refine ⟨_, pss_one (ps_ret (pe_callTy call_tuple_of (by rfl) B.tuple (by decide +kernel) (pa_cons (pe_lc (own := [("_law_k", 3)]) (g := gName 3) (tt := tYes) rfl nd (pi_range1 rfl B.range (pa_cons (pv 1) pa_nil)) (blkOk_by (N := N_L_any) (sc := defScope s_L_any) (by decide +kernel))
      (fun _ _ _ _ _ => pg_name (i := 3) nd rfl (.inl rfl)) (fun _ _ _ _ _ => pts_nil) (fun _ _ _ _ _ => pe_op op_add pe_int (pe_cl DN GN hr (pa_cons (pv 0) (pa_cons (pv 2) pa_nil))))) pa_nil))), ?_⟩
    refine ⟨.int (m : Int), rfl, _, rfl, by omega, by omega, fun D hDn => lc_range (n := (m : Int).toNat) (fun i Hx => ∃ ns : List Int, Hx D = some (.lst (ns.map V.int)) ∧ ns.length = i ∧ (∀ x ∈ ns, LvOk x) ∧ Dr Hx d c r (n + i) ∧ Kp d r H Hx) ⟨[], upd_same, rfl, fun x hx => by simp at hx, hD.new hDn, Kp.new hDn⟩ (fun i Hx hi hP => ?_) (fun Hx hP => ?_)⟩
    · obtain ⟨ns, h1, h2, h3, h4, h5⟩ := hP
      have nD := hD.ne hDn
      refine ⟨rfl, .ref d, rfl, .int wd, rfl, d, c, r, n + i, wd, rfl, h4, by omega, w0, by omega, fun H2 k2 l2 D2 kp2 => ?_⟩
      have hD2 : H2 D = some (.lst (ns.map V.int)) := kp2 D _ h1 nD.1 nD.2.2
      refine ⟨_, _, rfl, rfl, ns.map V.int, hD2, by rw [List.length_map]; exact small1000 (by omega), ns ++ [1 + (k2 : Int)], ?_, by rw [List.length_append, h2]; rfl, ?_, D2.upd nD.1 nD.2.1 nD.2.2, ?_⟩
      · rw [upd_same, List.map_append]; rfl
      · intro x hx
        rcases List.mem_append.mp hx with hx | hx
        · exact h3 x hx
        · rw [List.mem_singleton.mp hx]; exact ⟨by omega, by omega⟩
      · intro b o e n1 n2
        rw [upd_ne (ne_of_none e hDn)]
        exact kp2 b o (h5 b o e n1 n2) n1 n2
    · obtain ⟨ns, h1, h2, h3, h4, h5⟩ := hP
      have e2 : (m : Int).toNat = m := by omega
      rw [e2] at h2 h4
      refine ⟨D, _, rfl, .inl ⟨SqL.of h1, fun p hp => ?_⟩⟩
      exact q _ _ ns ⟨p, rfl, SqT.of upd_same⟩ h2 h3 (h4.new hp) (h5.trans (Kp.new hp))
/-! ### levels raised -/
def sp_raised (K : PySem.W.Frag) : Sp := fun vs H Q _ => ∃ (d c r : Addr) (n : Nat) (tv : V) (t : List (List Int)) (g : Addr) (gs : List Int), vs = [.ref d, tv, .ref g] ∧ Dr H d c r n ∧ n ≤ 800000 ∧ TT K H tv t ∧ WT t ∧ t.length ≤ 20 ∧ H g = some (.lst (gs.map V.int)) ∧ g ≠ d ∧ g ≠ r ∧ GrOk gs ∧
  ∀ (H' : Hp) (v : V) (t' : List (List Int)), TT K H' v t' → WT t' → t'.length = t.length → Dr H' d c r (n + 400) → Kp d r H H' → Q v H'
theorem ok_raised {f fN fO : Addr} {fd fdN fdO : FuncData} (F : Fun K "_law_raised" "_law_raised" s_L_raised f fd) (DN : Df K mg "_law_next" s_L_next fN fdN ["_law_drawn", "_law_many"]) (DO : Df K mg "_law_one" s_L_one fO fdO ["_law_drawn", "_law_items"]) (B : Bi mg) :
    FnOk P w K mg base CX0 3 f fd ["_law_drawn", "_law_table_here", "_law_grades_here"] (sp_raised K) := by
  have GO : FnOk P w K mg base CX0 2 fO fdO ["_law_drawn", "_law_items"] (sp_one K) := ok_one DO.F DN B
  refine F.ok sc_L_raised (fun vs H Q E h => ?_) (fun cdv A outer s H vs Q E hr h => ?_)
  · obtain ⟨d, c, r, n, tv, t, g, gs, rfl, _⟩ := h
    rfl
  · obtain ⟨d, c, r, n, tv, t, g, gs, rfl, hD, hn, ⟨tp, rs, rfl, htp, hR⟩, hT, h20, hg, gd, gr, hG, q⟩ := h
    have nd := sc_L_raised.nd
    refine ⟨_, pss_cons (ps_set (i := 3) nd rfl (.inl rfl) (pe_lst pa_nil))
      (pss_cons (ps_for PassesOwn.never rfl (pi_tup (pv 1)) (pg_name (i := 4) nd rfl (.inl rfl))
        (pss_one (ps_expr (pe_bm PySem.F.plainAttrs_list PySem.F.slot_list_append PySem.F.type_list_append mt_append (pv 3) (pa_cons (pe_callTy call_tuple_of (by rfl) B.tuple (by decide +kernel) (pa_cons
          (pe_lc (own := [("_law_level_here", 5)]) (g := gName 5) (tt := tYes) rfl nd (pi_tup (pv 4)) (blkOk_by (N := N_L_raised) (sc := defScope s_L_raised) (by decide +kernel))
            (fun _ _ _ _ _ => pg_name (i := 5) nd rfl (.inl rfl)) (fun _ _ _ _ _ => pts_nil) (fun _ _ _ _ _ => pe_callB (call_max2 rfl) (by rfl) B.max (by decide +kernel) (pa_cons (pv 5) (pa_cons (pe_cl DO GO hr (pa_cons (pv 0) (pa_cons (pe_op op_cat (pv 2) (pe_lst (pa_cons pe_int (pa_cons pe_int pa_nil)))) pa_nil))) pa_nil)))) pa_nil)) pa_nil)))))
      (pss_one (ps_ret (pe_callTy call_tuple_of (by rfl) B.tuple (by decide +kernel) (pa_cons (pv 3) pa_nil))))), ?_⟩
    refine ⟨Nat.zero_le _, fun o ho => ?_⟩
    have no := hD.ne ho
    refine ⟨.ref tp, rfl, tp, rfl, ⟨_, (Sm.new ho).sqT htp⟩, for_tup (xs := rs) (fun i σ Hx => ∃ x4 xs t', σ = [some (.ref d), some (.ref tp), some (.ref g), some (.ref o), x4, none] ∧ Hx o = some (.lst xs) ∧ Rows K Hx xs t' ∧ WT t' ∧ t'.length = i ∧ Dr Hx d c r (n + 20 * i) ∧ Kp d r H Hx)
      ⟨none, [], [], rfl, upd_same, Rows.nil, WT.nil, rfl, hD.new ho, Kp.new ho⟩ (fun i σ Hx hi hP => ?_) (fun i v σ Hx hv hP => ?_) (fun σ Hx hP => ?_)⟩
    · obtain ⟨x4, xs, t', _, _, _, _, _, _, hk⟩ := hP
      exact hD.kpT hk htp
    · obtain ⟨x4, xs, t', rfl, hx, hR', hT', hl, hDx, hk⟩ := hP
      have hir : i < rs.length := (List.getElem?_eq_some_iff.mp hv).1
      have hit : i < t.length := by rw [← hR.1]; exact hir
      obtain ⟨v', p, hv', rfl, hp⟩ := hR.get hit
      obtain rfl : v = .ref p := Option.some.inj (hv.symm.trans hv')
      obtain ⟨l1, l2⟩ := hT.row hit
      have hpx := hD.kpT hk hp
      refine ⟨.ref o, rfl, .inl ⟨rfl, _, SqL.of hx⟩, .ref p, rfl, p, rfl, ⟨_, hpx⟩, fun D hDn => lc_tup (xs := (t.getD i []).map V.int) (fun j Hy => ∃ ns : List Int, Hy D = some (.lst (ns.map V.int)) ∧ ns.length = j ∧ (∀ x ∈ ns, LvOk x) ∧ Dr Hy d c r (n + 20 * i + j) ∧ Kp d r Hx Hy) ⟨[], upd_same, rfl, fun x hx => by simp at hx, hDx.new hDn, Kp.new hDn⟩ (fun j Hy hj hP => ?_) (fun j y Hy hy hP => ?_) (fun Hy hP => ?_)⟩
      · obtain ⟨ns, _, _, _, _, h5⟩ := hP
        exact hDx.kpT h5 hpx
      · obtain ⟨ns, h1, h2, h3, h4, h5⟩ := hP
        obtain ⟨y0, hy0, rfl⟩ := gr_at l2 hy
        have hj : j < i := by
          have := (List.getElem?_eq_some_iff.mp hy).1
          rw [List.length_map] at this
          omega
        have nD := hDx.ne hDn
        have hgy : Hy g = some (.lst (gs.map V.int)) := h5 g _ (hk g _ hg gd gr) gd gr
        refine ⟨rfl, .int y0, rfl, .ref d, rfl, .ref g, rfl, (by show 2 ≤ sizeLine; decide), fun p1 hp1 => ?_⟩
        have hg1 : (upd Hy p1 (.lst [.int 1, .int 1])) g = some (.lst (gs.map V.int)) := Sm.new hp1 _ _ hgy
        refine ⟨g, p1, _, _, rfl, rfl, hg1, upd_same, by rw [List.length_map]; have := hG.2.1; exact Nat.le_of_lt (small1000 (show gs.length + 2 ≤ 1000 by omega)), fun p2 hp2 => ?_⟩
        have Dy2 := (h4.new (o := .lst [.int 1, .int 1]) hp1).new (o := .lst (gs.map V.int ++ [.int 1, .int 1])) hp2
        have np2 := (h4.new (o := .lst [.int 1, .int 1]) hp1).ne hp2
        refine ⟨d, c, r, _, p2, _, rfl, Dy2, by omega, SqL.of upd_same, np2.1, np2.2.2, by rw [List.length_append]; show 0 < _ + 2; omega, by rw [List.length_append, List.length_map]; have := hG.2.1; show _ + 2 ≤ 1000; omega, fun H3 i3 v3 hv3 D3 kp3 => ?_⟩
        obtain ⟨lv, hlv, rfl⟩ : ∃ lv : Int, LvOk lv ∧ v3 = .int lv := by
          refine gr_at (gs := gs ++ [1, 1]) (fun x hx => ?_) (by rw [List.map_append]; exact hv3)
          rcases List.mem_append.mp hx with hx | hx
          · exact hG.2.2 x hx
          · rcases List.mem_cons.mp hx with hx | hx
            · rw [hx]; exact ⟨by decide, by decide⟩
            · rw [List.mem_singleton.mp hx]; exact ⟨by decide, by decide⟩
        have kq : Kp d r Hy H3 := ((Kp.new hp1).trans (Kp.new hp2)).trans kp3
        have hD3 : H3 D = some (.lst (ns.map V.int)) := kq D _ h1 nD.1 nD.2.2
        refine ⟨_, _, rfl, ns.map V.int, hD3, by rw [List.length_map]; exact small1000 (by omega), ns ++ [if lv > y0 then lv else y0], ?_, by rw [List.length_append, h2]; rfl, ?_, (D3.upd nD.1 nD.2.1 nD.2.2), ?_⟩
        · rw [upd_same, List.map_append]; rfl
        · intro x hx
          rcases List.mem_append.mp hx with hx | hx
          · exact h3 x hx
          · rw [List.mem_singleton.mp hx]
            split
            · exact hlv
            · exact hy0
        · intro b u e n1 n2
          rw [upd_ne (ne_of_none e hDn)]
          exact kq b u (h5 b u e n1 n2) n1 n2
      · obtain ⟨ns, h1, h2, h3, h4, h5⟩ := hP
        rw [List.length_map, l1] at h2 h4
        have hxy : Hy o = some (.lst xs) := h5 o _ hx no.1 no.2.2
        refine ⟨D, _, rfl, .inl ⟨SqL.of h1, fun p5 hp5 => ?_⟩⟩
        have hx5 : (upd Hy p5 (.tup (ns.map V.int))) o = some (.lst xs) := Sm.new hp5 _ _ hxy
        have hxl : xs.length = i := by rw [hR'.1, hl]
        refine ⟨o, _, _, rfl, rfl, hx5, small1000 (by omega), ?_⟩
        have R5 : Rows K (upd Hy p5 (.tup (ns.map V.int))) (xs ++ [.ref p5]) (t' ++ [ns]) := ((hR'.kp hDx h5).same (Sm.new hp5)).snoc ⟨p5, rfl, SqT.of upd_same⟩
        refine ⟨_, _, _, rfl, upd_same, R5.upd hx5, hT'.snoc (by omega) h3, by rw [List.length_append, hl]; rfl, ((h4.new hp5).upd no.1 no.2.1 no.2.2).mono (by omega), ?_⟩
        intro b u e n1 n2
        rw [upd_ne (ne_of_none e ho)]
        exact Sm.new hp5 _ _ (h5 b u (hk b u e n1 n2) n1 n2)
    · obtain ⟨x4, xs, t', rfl, hx, hR', hT', hl, hDx, hk⟩ := hP
      refine ⟨.ref o, rfl, o, xs, rfl, .inl ⟨SqL.of hx, fun p hp => ?_⟩⟩
      have hrl := hR.1
      exact q _ _ t' ⟨p, xs, rfl, SqT.of upd_same, hR'.same (Sm.new hp)⟩ hT' (by omega) ((hDx.new hp).mono (by omega)) (hk.trans (Kp.new hp))
end
section
variable {P : Program} {w : World} {K : PySem.W.Frag} {mg : Str → Option Value} {base : Heap}
/-! ### tables -/
def sp_table (K : PySem.W.Frag) : Sp := fun vs H Q _ => ∃ (d c r : Addr) (n cnt : Nat), vs = [.ref d, .int (cnt : Int)] ∧ Dr H d c r n ∧ n ≤ 700000 ∧ 1 ≤ cnt ∧ cnt ≤ 20 ∧
  ∀ (H' : Hp) (v : V) (t : List (List Int)), TT K H' v t → WT t → t.length = cnt → Dr H' d c r (n + 500) → Kp d r H H' → Q v H'
structure DrawDefs (K : PySem.W.Frag) (mg : Str → Option Value) : Prop where
  B : Bi mg
  next : ∃ f fd, Df K mg "_law_next" s_L_next f fd ["_law_drawn", "_law_many"]
  one : ∃ f fd, Df K mg "_law_one" s_L_one f fd ["_law_drawn", "_law_items"]
  count : ∃ f fd, Df K mg "_law_count" s_L_count f fd ["_law_drawn", "_law_most"]
  grades : ∃ f fd, Df K mg "_law_grades" s_L_grades f fd ["_law_drawn"]
  level : ∃ f fd, Df K mg "_law_level" s_L_level f fd ["_law_table_here", "_law_one_here", "_law_other"]
  nested : ∃ f fd, Df K mg "_law_nested" s_L_nested f fd ["_law_drawn", "_law_count_here", "_law_grades_here"]
  raised : ∃ f fd, Df K mg "_law_raised" s_L_raised f fd ["_law_drawn", "_law_table_here", "_law_grades_here"]
  levels : ∃ f fd, Df K mg "_law_levels" s_L_levels f fd ["_law_drawn", "_law_many", "_law_grades_here"]
  any : ∃ f fd, Df K mg "_law_any" s_L_any f fd ["_law_drawn", "_law_many", "_law_wide"]
theorem ok_table {f : Addr} {fd : FuncData} (F : Fun K "_law_table" "_law_table" s_L_table f fd) (T : DrawDefs K mg) : FnOk P w K mg base CX0 4 f fd ["_law_drawn", "_law_count_here"] (sp_table K) := by
  have B := T.B
  obtain ⟨fN, fdN, DN⟩ := T.next
  obtain ⟨fO, fdO, DO⟩ := T.one
  obtain ⟨fG, fdG, DG⟩ := T.grades
  obtain ⟨fL, fdL, DL⟩ := T.level
  obtain ⟨fE, fdE, DE⟩ := T.nested
  obtain ⟨fR, fdR, DR⟩ := T.raised
  obtain ⟨fS, fdS, DS⟩ := T.levels
  obtain ⟨fA, fdA, DA⟩ := T.any
  have GN : FnOk P w K mg base CX0 3 fN fdN ["_law_drawn", "_law_many"] sp_next := ok_next DN.F B
  have GO : FnOk P w K mg base CX0 3 fO fdO ["_law_drawn", "_law_items"] (sp_one K) := (ok_one DO.F DN B).mono (by decide)
  have GG : FnOk P w K mg base CX0 3 fG fdG ["_law_drawn"] sp_grades := (ok_grades DG.F DN B).mono (by decide)
  have GE : FnOk P w K mg base CX0 3 fE fdE ["_law_drawn", "_law_count_here", "_law_grades_here"] (sp_nested K) := ok_nested DE.F DN DO DL B
  have GR : FnOk P w K mg base CX0 3 fR fdR ["_law_drawn", "_law_table_here", "_law_grades_here"] (sp_raised K) := ok_raised DR.F DN DO B
  have GS : FnOk P w K mg base CX0 3 fS fdS ["_law_drawn", "_law_many", "_law_grades_here"] (sp_levels K) := ok_levels DS.F DN DO B
  have GA : FnOk P w K mg base CX0 3 fA fdA ["_law_drawn", "_law_many", "_law_wide"] (sp_any K) := ok_any DA.F DN B
  refine F.ok sc_L_table (fun vs H Q E h => ?_) (fun cdv A outer s H vs Q E hr h => ?_)
  · obtain ⟨d, c, r, n, cnt, rfl, _⟩ := h
    rfl
  · obtain ⟨d, c, r, n, cnt, rfl, hD, hn, c1, c2, q⟩ := h
    have nd := sc_L_table.nd
    refine ⟨_, pss_cons (ps_asg (pe_tup (pa_cons (pe_cl DG GG hr (pa_cons (pv 0) pa_nil)) (pa_cons (pe_cl DN GN hr (pa_cons (pv 0) (pa_cons pe_int pa_nil))) pa_nil)))
            (pg_tup rfl (pgs_cons (pg_name (i := 2) nd rfl (.inr rfl)) (pgs_cons (pg_name (i := 3) nd rfl (.inl rfl)) pgs_nil))))
      (pss_cons (ps_if (pt_cmpR op_eq (pv 3) pe_int (nomark _)) (pss_one (ps_ret (pe_callTy call_tuple_of (by rfl) B.tuple (by decide +kernel) (pa_cons
          (pe_lc (own := [("_law_one_here", 4)]) (g := gName 4) (tt := tYes) rfl nd (pi_range1 rfl B.range (pa_cons (pv 1) pa_nil)) (blkOk_by (N := N_L_table) (sc := defScope s_L_table) (by decide +kernel))
            (fun _ _ _ _ _ => pg_name (i := 4) nd rfl (.inl rfl)) (fun _ _ _ _ _ => pts_nil) (fun _ _ _ _ _ => pe_cl DS GS hr (pa_cons (pv 0) (pa_cons (pv 4) (pa_cons (pv 2) pa_nil))))) pa_nil)))) pss_nil)
      (pss_cons (ps_if (pt_cmpR op_eq (pv 3) pe_int (nomark _)) (pss_cons (ps_set (i := 5) nd rfl (.inr rfl) (pe_cl DO GO hr (pa_cons (pv 0) (pa_cons (pe_lst (pa_cons pe_int (pa_cons pe_int (pa_cons (pe_op op_pow pe_int pe_int) pa_nil)))) pa_nil))))
          (pss_one (ps_ret (pe_callTy call_tuple_of (by rfl) B.tuple (by decide +kernel) (pa_cons
          (pe_lc (own := [("_law_one_here", 4)]) (g := gName 4) (tt := tYes) rfl nd (pi_range1 rfl B.range (pa_cons (pv 1) pa_nil)) (blkOk_by (N := N_L_table) (sc := defScope s_L_table) (by decide +kernel))
            (fun _ _ _ _ _ => pg_name (i := 4) nd rfl (.inl rfl)) (fun _ _ _ _ _ => pts_nil) (fun _ _ _ _ _ => pe_cl DA GA hr (pa_cons (pv 0) (pa_cons (pv 4) (pa_cons (pv 5) pa_nil))))) pa_nil))))) pss_nil)
      (pss_cons (ps_set (i := 6) nd rfl (.inl rfl) (pe_cl DE GE hr (pa_cons (pv 0) (pa_cons (pv 1) (pa_cons (pv 2) pa_nil)))))
      (pss_cons (ps_if (PW.pt (pw_or (pt_cmpR op_eq (pv 3) pe_int (nomark _)) (pw_or1 (pt_cmpR op_eq (pv 1) pe_int (nomark _))))) (pss_one (ps_ret (pv 6))) pss_nil)
      (pss_cons (ps_if (pt_cmpR op_eq (pv 3) pe_int (nomark _)) (pss_one (ps_ret (pe_cl DR GR hr (pa_cons (pv 0) (pa_cons (pv 6) (pa_cons (pv 2) pa_nil)))))) pss_nil)
      (pss_cons (ps_set (i := 4) nd rfl (.inl rfl) (pe_op op_add pe_int (pe_cl DN GN hr (pa_cons (pv 0) (pa_cons (pe_op op_sub (pv 1) pe_int) pa_nil)))))
      (pss_cons (ps_par (i := 7) (j := 8) rfl nd rfl rfl (by decide) rfl rfl (pa_cons (pe_cl DN GN hr (pa_cons (pv 0) (pa_cons (pv 4) pa_nil))) (pa_cons (pe_cl DO GO hr (pa_cons (pv 0) (pa_cons (pe_op op_cat (pv 2) (pe_lst (pa_cons pe_int (pa_cons (pe_op op_pow pe_int pe_int) pa_nil)))) pa_nil))) pa_nil)) rfl)
      (pss_cons (ps_set (i := 9) nd rfl (.inl rfl) (pe_op op_catW (pe_op op_catW (pe_slice sl_tupW (pe_ix ix_tup (pv 6) (pv 4) (fun _ _ => rfl)) po_none (po_some (pv 7))) (pe_tup (pa_cons (pv 8) pa_nil))) (pe_slice sl_tupW (pe_ix ix_tup (pv 6) (pv 4) (fun _ _ => rfl)) (po_some (pe_op op_add (pv 7) pe_int)) po_none)))
      (pss_one (ps_ret (pe_op op_catW (pe_op op_catW (pe_slice sl_tupW (pv 6) po_none (po_some (pv 4))) (pe_tup (pa_cons (pv 9) pa_nil))) (pe_slice sl_tupW (pv 6) (po_some (pe_op op_add (pv 4) pe_int)) po_none)))))))))))), ?_⟩
    -- grades, way
    refine ⟨.ref d, rfl, d, c, r, n, rfl, hD, by omega, fun H1 g gs hg0 hg1 hG D1 kp1 gd gc gr => ?_⟩
    refine ⟨.ref d, rfl, d, c, r, _, 5, rfl, D1, by omega, by decide, by decide, fun H2 way lw D2 kp2 => ?_⟩
    refine ⟨(by show 2 ≤ sizeLine; decide), fun p3 hp3 => ?_⟩
    refine ⟨p3, _, rfl, SqT.of upd_same, rfl, _, _, rfl, _, _, rfl, rfl, ?_⟩
    have hg2 : H2 g = some (.lst (gs.map V.int)) := kp2 g _ hg1 gd gr
    have hg3 : (upd H2 p3 (.tup [.ref g, .int (way : Int)])) g = some (.lst (gs.map V.int)) := Sm.new hp3 _ _ hg2
    have D3 := D2.new (o := .tup [.ref g, .int (way : Int)]) hp3
    have k3 : Kp d r H (upd H2 p3 (.tup [.ref g, .int (way : Int)])) := (kp1.trans kp2).trans (Kp.new hp3)
    generalize upd H2 p3 (.tup [.ref g, .int (way : Int)]) = H3 at D3 hg3 k3
    -- way 0
    refine ⟨.int (way : Int), rfl, rfl, _, rfl, ite2 (fun e => ?_) (fun e0 => ?_)⟩
    · refine ⟨.int (cnt : Int), rfl, _, rfl, by omega, by omega, fun D hDn => lc_range (n := (cnt : Int).toNat) (fun i Hx => ∃ xs t, Hx D = some (.lst xs) ∧ Rows K Hx xs t ∧ WT t ∧ t.length = i ∧ Dr Hx d c r (n + 10 + 20 * i) ∧ Kp d r H3 Hx) ⟨[], [], upd_same, Rows.nil, WT.nil, rfl, D3.new hDn, Kp.new hDn⟩ (fun i Hx hi hP => ?_) (fun Hx hP => ?_)⟩
      · obtain ⟨xs, t, h1, h2, h3, h4, h5, h6⟩ := hP
        have nD := D3.ne hDn
        refine ⟨rfl, .ref d, rfl, .int (0 + (i : Int)), rfl, .ref g, rfl, d, c, r, _, i, g, gs, by rw [Int.zero_add]; rfl, h5, by omega, by omega, SqL.of (h6 g _ hg3 gd gr), gd, gr, hG, fun H4 v ns hv hl hL D4 kp4 => ?_⟩
        have hD4 : H4 D = some (.lst xs) := kp4 D _ h1 nD.1 nD.2.2
        have hxl := h2.1
        refine ⟨xs, hD4, small1000 (by omega), xs ++ [v], t ++ [ns], upd_same, ((h2.kp h5 kp4).snoc hv).upd hD4, h3.snoc (by omega) hL, by rw [List.length_append, h4]; rfl, (D4.upd nD.1 nD.2.1 nD.2.2).mono (by omega), ?_⟩
        intro b o e n1 n2
        rw [upd_ne (ne_of_none e hDn)]
        exact kp4 b o (h6 b o e n1 n2) n1 n2
      · obtain ⟨xs, t, h1, h2, h3, h4, h5, h6⟩ := hP
        refine ⟨D, _, rfl, .inl ⟨SqL.of h1, fun p hp => ?_⟩⟩
        exact q _ _ t ⟨p, xs, rfl, SqT.of upd_same, h2.same (Sm.new hp)⟩ h3 (by omega) ((h5.new hp).mono (by omega)) (k3.trans (h6.trans (Kp.new hp)))
    -- way 1
    refine ⟨.int (way : Int), rfl, rfl, _, rfl, ite2 (fun e => ?_) (fun e1 => ?_)⟩
    · refine ⟨.ref d, rfl, _, _, rfl, rfl, ⟨by decide, by decide, by decide⟩, (by show 3 ≤ sizeLine; decide), fun p4 hp4 => ?_⟩
      have np4 := D3.ne hp4
      have D4 := D3.new (o := .lst [.int 3, .int 20, .int (10 ^ (12 : Int).toNat)]) hp4
      refine ⟨d, c, r, _, p4, _, rfl, D4, by omega, SqL.of upd_same, np4.1, np4.2.2, by decide, by decide, fun H5 i5 v5 hv5 D5 kp5 => ?_⟩
      obtain ⟨wd, rfl, w0, w1⟩ : ∃ wd : Int, v5 = .int wd ∧ 0 < wd ∧ wd ≤ 1000000000000 := by
        match i5, hv5 with
        | 0, h => exact ⟨3, (Option.some.inj h).symm, by decide, by decide⟩
        | 1, h => exact ⟨20, (Option.some.inj h).symm, by decide, by decide⟩
        | 2, h => exact ⟨10 ^ (12 : Int).toNat, (Option.some.inj h).symm, by decide, by decide⟩
        | k + 3, h => simp at h
      have k5 : Kp d r H H5 := k3.trans ((Kp.new hp4).trans kp5)
      refine ⟨.int (cnt : Int), rfl, _, rfl, by omega, by omega, fun D hDn => lc_range (n := (cnt : Int).toNat) (fun i Hx => ∃ xs t, Hx D = some (.lst xs) ∧ Rows K Hx xs t ∧ WT t ∧ t.length = i ∧ Dr Hx d c r (n + 11 + 20 * i) ∧ Kp d r H5 Hx) ⟨[], [], upd_same, Rows.nil, WT.nil, rfl, D5.new hDn, Kp.new hDn⟩ (fun i Hx hi hP => ?_) (fun Hx hP => ?_)⟩
      · obtain ⟨xs, t, h1, h2, h3, h4, h5, h6⟩ := hP
        have nD := D5.ne hDn
        refine ⟨rfl, .ref d, rfl, .int (0 + (i : Int)), rfl, .int wd, rfl, d, c, r, _, i, wd, by rw [Int.zero_add]; rfl, h5, by omega, by omega, w0, w1, fun H4 v ns hv hl hL D4 kp4 => ?_⟩
        have hD4 : H4 D = some (.lst xs) := kp4 D _ h1 nD.1 nD.2.2
        have hxl := h2.1
        refine ⟨xs, hD4, small1000 (by omega), xs ++ [v], t ++ [ns], upd_same, ((h2.kp h5 kp4).snoc hv).upd hD4, h3.snoc (by omega) hL, by rw [List.length_append, h4]; rfl, (D4.upd nD.1 nD.2.1 nD.2.2).mono (by omega), ?_⟩
        intro b o e n1 n2
        rw [upd_ne (ne_of_none e hDn)]
        exact kp4 b o (h6 b o e n1 n2) n1 n2
      · obtain ⟨xs, t, h1, h2, h3, h4, h5, h6⟩ := hP
        refine ⟨D, _, rfl, .inl ⟨SqL.of h1, fun p hp => ?_⟩⟩
        exact q _ _ t ⟨p, xs, rfl, SqT.of upd_same, h2.same (Sm.new hp)⟩ h3 (by omega) ((h5.new hp).mono (by omega)) (k5.trans (h6.trans (Kp.new hp)))
    -- a nested one
    refine ⟨.ref d, rfl, .int (cnt : Int), rfl, .ref g, rfl, d, c, r, _, cnt, g, gs, rfl, D3, by omega, c1, c2, SqL.of hg3, gd, gr, hG, fun H4 tv t hTT hWT htl D4 kp4 => ?_⟩
    have hg4 : H4 g = some (.lst (gs.map V.int)) := kp4 g _ hg3 gd gr
    have k4 : Kp d r H H4 := k3.trans kp4
    refine ⟨.int (way : Int), rfl, rfl, _, rfl, ?_⟩
    refine ite2 (fun e => iteT ⟨_, rfl, q H4 tv t hTT hWT htl (D4.mono (by omega)) k4⟩) (fun e2 => ?_)
    refine ⟨.int (cnt : Int), rfl, rfl, _, rfl, ite2 (fun e => ⟨_, rfl, q H4 tv t hTT hWT htl (D4.mono (by omega)) k4⟩) (fun e3 => ?_)⟩
    have hcnt : cnt ≠ 1 := fun z => e3 (decide_eq_true (by rw [z]; rfl))
    refine ⟨.int (way : Int), rfl, rfl, _, rfl, ite2 (fun e => ?_) (fun e4 => ?_)⟩
    · exact ⟨.ref d, rfl, _, rfl, .ref g, rfl, d, c, r, _, tv, t, g, gs, rfl, D4, by omega, hTT, hWT, by omega, hg4, gd, gr, hG, fun H5 v t' h1 h2 h3 D5 kp5 => q H5 v t' h1 h2 (by omega) (D5.mono (by omega)) (k4.trans kp5)⟩
    -- one level changed
    refine ⟨.ref d, rfl, .int (cnt : Int), rfl, _, _, rfl, rfl, d, c, r, _, _, rfl, D4, by omega, by omega, by omega, fun H5 k5 l5 D5 kp5 => ?_⟩
    refine ⟨_, _, rfl, rfl, ?_⟩
    dsimp only
    rw [show (1 : Int) + (k5 : Int) = ((1 + k5 : Nat) : Int) by omega]
    obtain ⟨o1, ho1⟩ : ∃ o1, o1 = 1 + k5 := ⟨_, rfl⟩
    rw [← ho1]
    have ho1l : o1 < cnt := by omega
    refine ⟨.ref d, rfl, .int (o1 : Int), rfl, d, c, r, _, _, rfl, D5, by omega, by omega, by omega, fun H6 k6 l6 D6 kp6 => ?_⟩
    have hg6 : H6 g = some (.lst (gs.map V.int)) := kp6 g _ (kp5 g _ hg4 gd gr) gd gr
    refine ⟨.ref d, rfl, .ref g, rfl, _, _, rfl, rfl, ⟨by decide, by decide, by decide⟩, (by show 2 ≤ sizeLine; decide), fun p7 hp7 => ?_⟩
    have hg7 : (upd H6 p7 (.lst [.int 1, .int (10 ^ (12 : Int).toNat)])) g = some (.lst (gs.map V.int)) := Sm.new hp7 _ _ hg6
    refine ⟨g, p7, _, _, rfl, rfl, hg7, upd_same, by rw [List.length_map]; have := hG.2.1; exact Nat.le_of_lt (small1000 (show gs.length + 2 ≤ 1000 by omega)), fun p8 hp8 => ?_⟩
    have D8 := (D6.new (o := .lst [.int 1, .int (10 ^ (12 : Int).toNat)]) hp7).new (o := .lst (gs.map V.int ++ [.int 1, .int (10 ^ (12 : Int).toNat)])) hp8
    have np8 := (D6.new (o := .lst [.int 1, .int (10 ^ (12 : Int).toNat)]) hp7).ne hp8
    refine ⟨d, c, r, _, p8, _, rfl, D8, by omega, SqL.of upd_same, np8.1, np8.2.2, by rw [List.length_append]; show 0 < _ + 2; omega, by rw [List.length_append, List.length_map]; have := hG.2.1; show _ + 2 ≤ 1000; omega, fun H9 i9 v9 hv9 D9 kp9 => ?_⟩
    obtain ⟨lv, hlv, rfl⟩ : ∃ lv : Int, LvOk lv ∧ v9 = .int lv := by
      refine gr_at (gs := gs ++ [1, 10 ^ (12 : Int).toNat]) (fun x hx => ?_) (by rw [List.map_append]; exact hv9)
      rcases List.mem_append.mp hx with hx | hx
      · exact hG.2.2 x hx
      · rcases List.mem_cons.mp hx with hx | hx
        · rw [hx]; exact ⟨by decide, by decide⟩
        · rw [List.mem_singleton.mp hx]; exact ⟨by decide, by decide⟩
    refine ⟨_, _, rfl, ?_⟩
    have kA : Kp d r H4 H9 := (kp5.trans kp6).trans (((Kp.new hp7).trans (Kp.new hp8)).trans kp9)
    have k9 : Kp d r H H9 := k4.trans kA
    obtain ⟨tp, rs, rfl, htp, hR⟩ := hTT.kp D4 kA
    have hrl := hR.1
    obtain ⟨rv, rp, hrv, rfl, hrp⟩ := hR.get (i := o1) (by omega)
    obtain ⟨l1, l2⟩ := hWT.row (i := o1) (by omega)
    have hk6 : k6 < o1 := by omega
    generalize hrow : t.getD o1 [] = row at hrp l1 l2
    -- row
    refine ⟨.ref tp, rfl, .int (o1 : Int), rfl, tp, rs, _, _, rfl, rfl, htp, atI_nat hrv, .int (k6 : Int), rfl, _, rfl, rp, _, rfl, hrp, fun pa Ha sa ha => ?_⟩
    refine ⟨.int lv, rfl, (by show 1 ≤ sizeLine; decide), fun pb hpb => ?_⟩
    have sb : Sm Ha (upd Ha pb (.tup [.int lv])) := Sm.new hpb
    refine ⟨pa, pb, _, _, rfl, rfl, sb.sqT ha, SqT.of upd_same, ?_, fun pc Hc sc hc => ?_⟩
    · have z := cutV_length (row.map V.int) none (some (k6 : Int))
      rw [List.length_map] at z
      exact Nat.le_of_lt (small1000 (show (cutV (row.map V.int) none (some (k6 : Int))).length + 1 ≤ 1000 by omega))
    have s1 := (sa.trans sb).trans sc
    refine ⟨.ref tp, rfl, .int (o1 : Int), rfl, tp, rs, _, _, rfl, rfl, s1.sqT htp, atI_nat hrv, .int (k6 : Int), rfl, _, _, rfl, rfl, _, rfl, rp, _, rfl, s1.sqT hrp, fun pd Hd sd hd => ?_⟩
    rw [show (k6 : Int) + 1 = ((k6 + 1 : Nat) : Int) by omega, cut_from] at hd
    rw [cut_to] at hc
    refine ⟨pc, pd, _, _, rfl, rfl, sd.sqT hc, hd, ?_, fun pe He se he => ?_⟩
    · rw [List.length_append, List.length_take, List.length_drop, List.length_map]
      exact Nat.le_of_lt (small1000 (show min k6 row.length + 1 + (row.length - (k6 + 1)) ≤ 1000 by omega))
    have s2 := (s1.trans sd).trans se
    rw [set_parts _ _ _ (by rw [List.length_map]; omega), ← List.map_set] at he
    -- the table
    refine ⟨.ref tp, rfl, .int (o1 : Int), rfl, _, rfl, tp, rs, rfl, s2.sqT htp, fun pf Hf sf hf => ?_⟩
    refine ⟨.ref pe, rfl, (by show 1 ≤ sizeLine; decide), fun pg hpg => ?_⟩
    have sg : Sm Hf (upd Hf pg (.tup [.ref pe])) := Sm.new hpg
    rw [cut_to] at hf
    refine ⟨pf, pg, _, _, rfl, rfl, sg.sqT hf, SqT.of upd_same, ?_, fun ph Hh sh hh => ?_⟩
    · rw [List.length_take]
      exact Nat.le_of_lt (small1000 (show min o1 rs.length + 1 ≤ 1000 by omega))
    have s3 := ((s2.trans sf).trans sg).trans sh
    refine ⟨.ref tp, rfl, .int (o1 : Int), rfl, _, _, rfl, rfl, _, rfl, tp, rs, rfl, s3.sqT htp, fun pi Hi si hi => ?_⟩
    rw [show (o1 : Int) + 1 = ((o1 + 1 : Nat) : Int) by omega, cut_from] at hi
    refine ⟨ph, pi, _, _, rfl, rfl, si.sqT hh, hi, ?_, fun pj Hj sj hj => ?_⟩
    · rw [List.length_append, List.length_take, List.length_drop]
      exact Nat.le_of_lt (small1000 (show min o1 rs.length + 1 + (rs.length - (o1 + 1)) ≤ 1000 by omega))
    rw [set_parts _ _ _ (by omega)] at hj
    have s4 := (s3.trans si).trans sj
    have s5 : Sm He Hj := ((((sf.trans sg).trans sh).trans si).trans sj)
    refine q Hj _ (t.set o1 (row.set k6 lv)) ⟨pj, rs.set o1 (.ref pe), rfl, hj, (hR.same s4).set ⟨pe, rfl, s5.sqT he⟩⟩ (hWT.set (by rw [List.length_set]; exact l1) (fun x hx => ?_)) (by rw [List.length_set]; exact htl) ((D9.same s4).mono (by omega)) (k9.trans s4.kp)
    rcases List.mem_or_eq_of_mem_set hx with hx | hx
    · exact l2 x hx
    · rw [hx]; exact hlv
end
section
variable {P : Program} {w : World} {K : PySem.W.Frag} {mg : Str → Option Value} {base : Heap}
/-! ### the program: the text of a table -/
theorem sl_small78 {n : Nat} (h : n ≤ 1000000) : n ≤ sizeLine := Nat.le_trans h (by decide)
theorem log_lv78 {i : Int} (h0 : 0 ≤ i) (h : i ≤ 1000000000000) : i.natAbs.log2 < 1920 := by
  have : i.natAbs < 2 ^ 64 := Nat.lt_of_lt_of_le (m := 2000000000000) (by omega) (by decide)
  exact Nat.lt_trans (PySem.Flt.log2_lt_of (by decide) this) (by decide)
def sp_joined78 (K : PySem.W.Frag) : Sp := fun vs H Q _ => ∃ (p : Addr) (ns : List Int), vs = [.ref p] ∧ SqT K H p (ns.map V.int) ∧ (∀ x ∈ ns, LvOk x) ∧ ns.length ≤ 20 ∧ ∀ (H' : Hp) (s : Str), Sm H H' → TL.tl s = TL.joinL [32] (ns.map numI) → Q (.str s) H'
theorem ok_joined78 {f : Addr} {fd : FuncData} {k : Nat} (F : Fun K "joined" "joined" s_joined f fd) (B : Bi mg) : FnOk P w K mg base CX0 (k + 1) f fd ["numbers"] (sp_joined78 K) := by
  refine F.ok sc_joined (fun vs H Q E h => ?_) (fun cdv A outer s H vs Q E hr h => ?_)
  · obtain ⟨p, ns, rfl, _⟩ := h
    rfl
  · obtain ⟨p, ns, rfl, hp, hL, h20, q⟩ := h
    have nd := sc_joined.nd
    refine ⟨_, (pss_one (ps_ret (pe_join pe_str (pe_lc (own := [("number", 1)]) (g := gName 1) (tt := tYes) (te := tCB (fun xs H Q => ∃ i, xs = [.int i] ∧ i.natAbs.log2 < 1920 ∧ Q (.str (toString i)) H) (tCons (tVar 1) tNil)) rfl nd (pi_tup (pv 0)) (blkOk_by (N := N_joined) (sc := defScope s_joined) (by decide +kernel))
            (fun _ _ _ _ _ => pg_name (i := 1) nd rfl (.inl rfl)) (fun _ _ _ _ _ => pts_nil) (fun _ _ _ _ _ => (pe_callTy call_str_int (by rfl) B.str (by decide +kernel) (pa_cons (pv 1) pa_nil))))))), ?_⟩
    refine ⟨⟨_, rfl⟩, .ref p, rfl, p, rfl, ⟨_, hp⟩, fun D hD => lc_tup (xs := ns.map V.int) (fun i Hy => Hy D = some (.lst (((ns.take i).map fun x => (toString x : Str)).map V.str)) ∧ Sm H Hy) ⟨upd_same, Sm.new hD⟩ (fun i Hy _ hQ => hQ.2.sqT hp) (fun i y Hy hy hQ => ?_) (fun Hy hQ => ?_)⟩
    · obtain ⟨g1, sy⟩ := hQ
      rw [List.getElem?_map] at hy
      obtain ⟨x, hx, rfl⟩ := Option.map_eq_some_iff.mp hy
      have hi := (List.getElem?_eq_some_iff.mp hx).1
      have lx := hL x (List.mem_of_getElem? hx)
      refine ⟨rfl, .int x, rfl, x, rfl, log_lv78 (by have := lx.1; omega) lx.2, ?_⟩
      refine ⟨_, g1, by rw [List.length_map, List.length_map, List.length_take]; exact small1000 (by omega), ?_, fun cc o e => by rw [upd_ne (ne_of_none e hD)]; exact sy cc o e⟩
      rw [upd_same, List.take_add_one, hx, List.map_append, List.map_append]
      rfl
    · obtain ⟨g1, sy⟩ := hQ
      rw [List.length_map, List.take_length] at g1
      have hl : ∀ x ∈ ns, (toString x : Str).length ≤ 13 := fun x hx => by
        have lx := hL x hx
        rw [TL.len_tl, tl_int (by have := lx.1; omega)]
        exact numI_len (by have := lx.2; omega)
      have hsum : ∀ l : List Int, (∀ x ∈ l, (toString x : Str).length ≤ 13) → ((l.map fun x => (toString x : Str)).map (·.length)).sum ≤ 13 * l.length := fun l => by
        induction l with
        | nil => exact fun _ => Nat.zero_le _
        | cons x l ih =>
          intro h
          have a := ih fun y hy => h y (List.mem_cons_of_mem _ hy)
          have b := h x List.mem_cons_self
          rw [List.map_cons, List.map_cons, List.sum_cons, List.length_cons, Nat.mul_succ]
          omega
      refine ⟨_, D, ns.map fun x => (toString x : Str), rfl, rfl, .inl (SqL.of g1), ?_, ?_⟩
      · have := hsum ns hl
        have e1 : (Str.ofString " ").length = 1 := by decide +kernel
        rw [List.length_map]
        show _ + ns.length * (Str.ofString " ").length ≤ _
        rw [e1]
        omega
      · refine q _ _ sy ?_
        rw [TL.join_eq, TL.tl_join, List.map_map]
        have e1 : TL.tl (Str.ofString " ") = [32] := by decide +kernel
        show TL.joinL (TL.tl (Str.ofString " ")) _ = _
        rw [e1]
        congr 1
        refine List.map_congr_left fun x hx => ?_
        exact tl_int (by have := (hL x hx).1; omega)
theorem sapp78 {a b : Str} {m n : Nat} (h : a.length ≤ m) (g : b.length ≤ n) : (a ++ b).length ≤ m + n := by
  rw [TL.len_tl] at h g ⊢
  rw [TL.tl_append, List.length_append]
  omega
theorem tl_empty78 : TL.tl Str.empty = [] := by decide +kernel
theorem fs78 (a b c : Str) : TL.tl (((Str.empty ++ a) ++ b) ++ c) = TL.tl a ++ TL.tl b ++ TL.tl c := by
  rw [TL.tl_append, TL.tl_append, TL.tl_append, tl_empty78, List.nil_append]
theorem row_at78 {H : Hp} {rs : List V} {t : List (List Int)} (hR : Rows K H rs t) {i : Nat} {v : V} (h : (rs.drop 1)[i]? = some v) : ∃ r p, (t.drop 1)[i]? = some r ∧ v = .ref p ∧ SqT K H p (r.map V.int) := by
  rw [List.getElem?_drop] at h
  have hi : 1 + i < t.length := by
    rw [← hR.1]
    exact (List.getElem?_eq_some_iff.mp h).1
  obtain ⟨u, p, hu, rfl, hp⟩ := hR.get hi
  rw [h] at hu
  cases hu
  refine ⟨t.getD (1 + i) [], p, ?_, rfl, hp⟩
  rw [List.getElem?_drop, List.getElem?_eq_getElem hi, List.getD_eq_getElem?_getD, List.getElem?_eq_getElem hi]
  rfl
def sp_ftab78 (K : PySem.W.Frag) : Sp := fun vs H Q _ => ∃ (tv : V) (t : List (List Int)), vs = [tv] ∧ TT K H tv t ∧ WT t ∧ 1 ≤ t.length ∧ t.length ≤ 20 ∧ ∀ (H' : Hp) (s : Str), Sm H H' → TL.tl s = ctab t → Q (.str s) H'
set_option maxHeartbeats 8000000 in
theorem ok_ftab78 {f fJ : Addr} {fd fdJ : FuncData} {k : Nat} (F : Fun K "format_table" "format_table" s_format_table f fd) (D_joined : Df K mg "joined" s_joined fJ fdJ ["numbers"]) (B : Bi mg) : FnOk P w K mg base CX0 (k + 2) f fd ["table"] (sp_ftab78 K) := by
  have G_joined : FnOk P w K mg base CX0 (k + 1) fJ fdJ ["numbers"] (sp_joined78 K) := ok_joined78 D_joined.F B
  refine F.ok sc_format_table (fun vs H Q E h => ?_) (fun cdv A outer s H vs Q E hr h => ?_)
  · obtain ⟨tv, t, rfl, _⟩ := h
    rfl
  · obtain ⟨tv, t, rfl, hT, hW, h1, h20, q⟩ := h
    have nd := sc_format_table.nd
    refine ⟨_, (pss_cons (ps_set (i := 1) nd rfl (.inl rfl) (pe_lst (pa_cons (pe_joined (.cons pe_str (.cons (pe_fmt (pe_len B (pv 0))) (.cons pe_str .nil)))) pa_nil)))
      (pss_cons (ps_for PassesOwn.never rfl (pi_tup (pe_slice sl_tupW (pv 0) (po_some pe_int) po_none)) (pg_name (i := 2) nd rfl (.inl rfl))
      (pss_one (ps_expr (pe_bm PySem.F.plainAttrs_list PySem.F.slot_list_append PySem.F.type_list_append mt_append (pv 1) (pa_cons (pe_joined (.cons pe_str (.cons (pe_fmt (pe_cl D_joined G_joined hr (pa_cons (pv 2) pa_nil))) (.cons pe_str .nil)))) pa_nil)))))
      (pss_one (ps_ret (pe_join pe_str (pv 1)))))), ?_⟩
    obtain ⟨tp, rs, rfl, htp, hR⟩ := id hT
    have hrl : rs.length = t.length := hR.1
    have w1 : (Str.ofString "items ").length ≤ 20 := by decide +kernel
    have w2 : (Str.ofString "\n").length ≤ 1 := by decide +kernel
    have w3 : (Str.ofString "row ").length ≤ 20 := by decide +kernel
    have v1 : TL.tl (Str.ofString "items ") = wItems ++ [32] := by decide +kernel
    have v2 : TL.tl (Str.ofString "\n") = [10] := by decide +kernel
    have v3 : TL.tl (Str.ofString "row ") = wRow ++ [32] := by decide +kernel
    have v0 : TL.tl (Str.ofString "") = [] := by decide +kernel
    have e0 : Str.empty.length ≤ 0 := by decide +kernel
    have n1 : TL.tl (toString ((rs.length : Nat) : Int) : Str) = TL.numL t.length := by rw [hrl]; exact TL.tl_num _
    have n2 : (toString ((rs.length : Nat) : Int) : Str).length ≤ 13 := by
      rw [TL.len_tl, n1]
      exact Nat.le_trans (TL.numL_len (n := t.length) (k := 2) (by decide) (by omega)) (by decide)
    refine ⟨_, rfl, sl_small78 (Nat.le_trans (sapp78 e0 w1) (by decide)), .ref tp, rfl, tp, rs, rfl, .inr htp, .inr ⟨(rs.length : Int), rfl, log_lv78 (by omega) (by omega), _, rfl, sl_small78 (Nat.le_trans (sapp78 (sapp78 e0 w1) n2) (by decide)), _, rfl, sl_small78 (Nat.le_trans (sapp78 (sapp78 (sapp78 e0 w1) n2) w2) (by decide)), ?_⟩⟩
    have hL0 := fs78 (Str.ofString "items ") (toString ((rs.length : Nat) : Int) : Str) (Str.ofString "\n")
    rw [v1, n1, v2] at hL0
    generalize ((Str.empty ++ Str.ofString "items ") ++ (toString ((rs.length : Nat) : Int) : Str)) ++ Str.ofString "\n" = L0 at hL0
    refine ⟨small1000 (Nat.le_of_ble_eq_true rfl), fun lo hlo => ?_⟩
    have s0 : Sm H (upd H lo (.lst [.str L0])) := Sm.new hlo
    have hlo0 : (upd H lo (.lst [.str L0])) lo = some (.lst [.str L0]) := upd_same
    generalize upd H lo (.lst [.str L0]) = H0 at s0 hlo0
    refine nx_mk ?_
    refine ⟨.ref tp, rfl, _, rfl, tp, rs, rfl, s0.sqT htp, fun sl H1 s1 hsl => ?_⟩
    rw [show (1 : Int) = ((1 : Nat) : Int) from rfl, cut_from] at hsl
    have hlo1 := s1 _ _ hlo0
    have hdl : (rs.drop 1).length = (t.drop 1).length := by rw [List.length_drop, List.length_drop, hrl]
    have d19 : (t.drop 1).length ≤ 19 := by rw [List.length_drop]; omega
    refine ⟨sl, rfl, ⟨_, hsl⟩, for_tup (xs := rs.drop 1) (fun i σ Hy => ∃ x2 ls, σ = [some (.ref tp), some (.ref lo), x2] ∧ Hy lo = some (.lst (ls.map V.str)) ∧ ls.map TL.tl = (cI t.length :: ((t.drop 1).take i).map cR).map (fun l => l ++ [10]) ∧ SqT K Hy sl (rs.drop 1) ∧ Sm H Hy)
      ⟨none, [L0], rfl, hlo1, ?_, hsl, s0.trans s1⟩ (fun i σ Hy _ hI => ?_) (fun i y σ Hy hy hI => ?_) (fun σ Hy hI => ?_)⟩
    · rw [List.take_zero]
      show [TL.tl L0] = [cI t.length ++ [10]]
      rw [hL0]
      show [((wItems ++ [32]) ++ TL.numL t.length) ++ [10]] = [(wItems ++ (32 :: TL.numL t.length)) ++ [10]]
      simp
    · obtain ⟨_, _, _, _, _, h, _⟩ := hI
      exact h
    · obtain ⟨x2, ls, rfl, hl1, hcd, hsl', sy⟩ := hI
      have hi : i < (t.drop 1).length := by rw [← hdl]; exact (List.getElem?_eq_some_iff.mp hy).1
      obtain ⟨r, p, hr, rfl, hp⟩ := row_at78 hR hy
      have rm : r ∈ t := List.mem_of_mem_drop (List.mem_of_getElem? hr)
      have rl : r.length ≤ 20 := by
        rw [List.getElem?_drop] at hr
        have a := (hW _ r hr).1
        have b := (List.getElem?_eq_some_iff.mp hr).1
        omega
      have ll : ls.length = i + 1 := by
        have a := congrArg List.length hcd
        rw [List.length_map, List.length_map, List.length_cons, List.length_map, List.length_take] at a
        omega
      have cl := cR_len (wt_row hW rm)
      refine ⟨.ref lo, rfl, .inl ⟨rfl, _, SqL.of hl1⟩, ?_⟩
      refine ⟨_, rfl, sl_small78 (Nat.le_trans (sapp78 e0 w3) (by decide)), .ref p, rfl, p, r, rfl, sy.sqT hp, wt_row hW rm, rl, fun H2 z s2 hz => ?_⟩
      have zl : z.length ≤ 300 := by
        rw [cR_join] at cl
        have a := TL.joinL
        rw [TL.len_tl, hz]
        exact Nat.le_trans (lenJ (B := 14) fun q hq => by
          obtain ⟨x, hx, rfl⟩ := List.mem_map.mp hq
          have := numI_len (i := x) (by have := (wt_row hW rm x hx).2; omega)
          show _ + 1 ≤ 14
          omega) (by rw [List.length_map]; omega)
      refine .inl ⟨z, rfl, sl_small78 (by omega), _, rfl, sl_small78 (Nat.le_trans (sapp78 (sapp78 e0 w3) zl) (by decide)), _, rfl, sl_small78 (Nat.le_trans (sapp78 (sapp78 (sapp78 e0 w3) zl) w2) (by decide)), ?_⟩
      have hLr := fs78 (Str.ofString "row ") z (Str.ofString "\n")
      rw [v3, v2, hz] at hLr
      generalize ((Str.empty ++ Str.ofString "row ") ++ z) ++ Str.ofString "\n" = Lr at hLr
      have hl2 := s2 _ _ hl1
      refine ⟨lo, _, _, rfl, rfl, hl2, by rw [List.length_map]; exact small1000 (by omega), ?_⟩
      refine ⟨_, ls ++ [Lr], rfl, by rw [List.map_append]; exact upd_same, ?_, sqT_upd hl2 (s2.sqT hsl'), fun c o e => by rw [upd_ne (ne_of_none e (Sm.free (Sm.refl _) hlo))]; exact (sy.trans s2) c o e⟩
      rw [List.map_append, hcd, List.take_add_one, hr, List.map_append]
      show _ ++ [TL.tl Lr] = (cI t.length :: (((t.drop 1).take i).map cR ++ [cR r])).map _
      rw [← List.cons_append, List.map_append, hLr]
      show _ ++ [((wRow ++ [32]) ++ TL.joinL [32] (r.map numI)) ++ [10]] = _ ++ [cR r ++ [10]]
      have rne : r ≠ [] := fun z => by
        rw [List.getElem?_drop] at hr
        have a := (hW _ r hr).1
        rw [z] at a
        simp at a
        omega
      obtain ⟨x, r', rfl⟩ : ∃ x r', r = x :: r' := by
        cases r with
        | nil => exact absurd rfl rne
        | cons x r' => exact ⟨x, r', rfl⟩
      rw [cR_join, joinL_flat [32] wRow, List.map_cons (f := numI), joinL_flat [32] (numI x), List.flatMap_cons]
      simp
    · obtain ⟨x2, ls, rfl, hl1, hcd, hsl', sy⟩ := hI
      rw [hdl, List.take_length] at hcd
      have ll : ls.length ≤ 20 := by
        have a := congrArg List.length hcd
        rw [List.length_map, List.length_map, List.length_cons, List.length_map] at a
        omega
      have tot : (ls.map (·.length)).sum ≤ 400 * ls.length := by
        have each : ∀ x ∈ ls, x.length ≤ 400 := fun x hx => by
          have m : TL.tl x ∈ (cI t.length :: (t.drop 1).map cR).map (fun l => l ++ [10]) := by rw [← hcd]; exact List.mem_map_of_mem hx
          obtain ⟨l, hl, el⟩ := List.mem_map.mp m
          rw [TL.len_tl, ← el, List.length_append]
          rcases List.mem_cons.mp hl with rfl | hl
          · have := cI_len (n := t.length) h20
            show _ + 1 ≤ 400
            omega
          · obtain ⟨r, hr, rfl⟩ := List.mem_map.mp hl
            have rm := List.mem_of_mem_drop hr
            have a := cR_len (wt_row hW rm)
            obtain ⟨k, hk⟩ := List.getElem?_of_mem rm
            have b := (hW k r hk).1
            have c := (List.getElem?_eq_some_iff.mp hk).1
            show _ + 1 ≤ 400
            omega
        clear hl1 hcd ll
        induction ls with
        | nil => exact Nat.zero_le _
        | cons x ls ih =>
          have a := ih fun y hy => each y (List.mem_cons_of_mem _ hy)
          have b := each x List.mem_cons_self
          rw [List.map_cons, List.sum_cons, List.length_cons, Nat.mul_succ]
          omega
      show _
      refine ⟨⟨_, rfl⟩, .ref lo, rfl, _, lo, ls, rfl, rfl, .inl (SqL.of hl1), ?_, ?_⟩
      · have e1 : (Str.ofString "").length = 0 := by decide +kernel
        show _ + ls.length * (Str.ofString "").length ≤ _
        rw [e1]
        omega
      · refine q _ _ sy ?_
        rw [TL.join_eq, TL.tl_join]
        show TL.joinL (TL.tl (Str.ofString "")) _ = _
        rw [v0, hcd]
        unfold ctab cLines
        generalize cI t.length :: (t.drop 1).map cR = cs
        induction cs with
        | nil => rfl
        | cons c cs ih =>
          rw [List.map_cons, joinL_flat, List.flatMap_cons]
          congr 1
          rw [← ih]
          cases cs with
          | nil => rfl
          | cons c2 cs =>
            rw [List.map_cons, joinL_flat, List.flatMap_cons]
            rfl
end
section
variable {P : Program} {w : World} {K : PySem.W.Frag} {mg : Str → Option Value} {base : Heap}
/-! ### the law: the text of a table -/
set_option maxHeartbeats 8000000 in
theorem ok_ltab78 {f : Addr} {fd : FuncData} {k : Nat} (F : Fun K "_law_table_text" "_law_table_text" s_L_table_text f fd) (B : Bi mg) : FnOk P w K mg base CX0 (k + 1) f fd ["_law_table_here"] (sp_ftab78 K) := by
  refine F.ok sc_L_table_text (fun vs H Q E h => ?_) (fun cdv A outer s H vs Q E hr h => ?_)
  · obtain ⟨tv, t, rfl, _⟩ := h
    rfl
  · obtain ⟨tv, t, rfl, hT, hW, h1, h20, q⟩ := h
    have nd := sc_L_table_text.nd
    refine ⟨_, (pss_cons (ps_set (i := 1) nd rfl (.inl rfl) (pe_op op_add_str (pe_op op_add_str pe_str (pe_callTy call_str_int (by rfl) B.str (by decide +kernel) (pa_cons (pe_len B (pv 0)) pa_nil))) pe_str))
      (pss_cons (ps_for PassesOwn.never rfl (pi_tup (pe_slice sl_tupW (pv 0) (po_some pe_int) po_none)) (pg_name (i := 2) nd rfl (.inl rfl))
      (pss_cons (ps_set (i := 1) nd rfl (.inl rfl) (pe_op op_add_str (pv 1) pe_str))
      (pss_cons (ps_for PassesOwn.never rfl (pi_tup (pv 2)) (pg_name (i := 3) nd rfl (.inl rfl))
      (pss_one (ps_set (i := 1) nd rfl (.inl rfl) (pe_op op_add_str (pe_op op_add_str (pv 1) pe_str) (pe_callTy call_str_int (by rfl) B.str (by decide +kernel) (pa_cons (pv 3) pa_nil))))))
      (pss_one (ps_set (i := 1) nd rfl (.inl rfl) (pe_op op_add_str (pv 1) pe_str))))))
      (pss_one (ps_ret (pv 1))))), ?_⟩
    obtain ⟨tp, rs, rfl, htp, hR⟩ := id hT
    have hrl : rs.length = t.length := hR.1
    have w1 : (Str.ofString "items ").length ≤ 20 := by decide +kernel
    have w2 : (Str.ofString "\n").length ≤ 1 := by decide +kernel
    have w3 : (Str.ofString "row").length ≤ 20 := by decide +kernel
    have w4 : (Str.ofString " ").length ≤ 1 := by decide +kernel
    have v1 : TL.tl (Str.ofString "items ") = wItems ++ [32] := by decide +kernel
    have v2 : TL.tl (Str.ofString "\n") = [10] := by decide +kernel
    have v3 : TL.tl (Str.ofString "row") = wRow := by decide +kernel
    have v4 : TL.tl (Str.ofString " ") = [32] := by decide +kernel
    have n1 : TL.tl (toString ((rs.length : Nat) : Int) : Str) = TL.numL t.length := by rw [hrl]; exact TL.tl_num _
    have n2 : (toString ((rs.length : Nat) : Int) : Str).length ≤ 13 := by
      rw [TL.len_tl, n1]
      exact Nat.le_trans (TL.numL_len (n := t.length) (k := 2) (by decide) (by omega)) (by decide)
    have fit : ∀ {a b : Str} {m n : Nat}, a.length ≤ m → b.length ≤ n → m + n ≤ 1000000 → a.length + b.length ≤ sizeLine := fun h g z => sl_small78 (by omega)
    refine ⟨.ref tp, rfl, tp, rs, rfl, .inr htp, _, rfl, log_lv78 (by omega) (by omega), _, _, rfl, rfl, fit w1 n2 (by decide), _, _, rfl, rfl, fit (sapp78 w1 n2) w2 (by decide), ?_⟩
    have hL0 : TL.tl ((Str.ofString "items " ++ (toString ((rs.length : Nat) : Int) : Str)) ++ Str.ofString "\n") = cI t.length ++ [10] := by
      rw [TL.tl_append, TL.tl_append, v1, n1, v2]
      show ((wItems ++ [32]) ++ TL.numL t.length) ++ [10] = (wItems ++ (32 :: TL.numL t.length)) ++ [10]
      simp
    generalize (Str.ofString "items " ++ (toString ((rs.length : Nat) : Int) : Str)) ++ Str.ofString "\n" = L0 at hL0
    refine nx_mk ?_
    refine ⟨.ref tp, rfl, _, rfl, tp, rs, rfl, htp, fun sl H1 s1 hsl => ?_⟩
    rw [show (1 : Int) = ((1 : Nat) : Int) from rfl, cut_from] at hsl
    have hdl : (rs.drop 1).length = (t.drop 1).length := by rw [List.length_drop, List.length_drop, hrl]
    have d19 : (t.drop 1).length ≤ 19 := by rw [List.length_drop]; omega
    have rows : ∀ r ∈ t.drop 1, (∀ x ∈ r, LvOk x) ∧ r.length ≤ 20 := fun r hr => by
      have rm := List.mem_of_mem_drop hr
      obtain ⟨k, hk⟩ := List.getElem?_of_mem rm
      have b := (hW k r hk).1
      have c := (List.getElem?_eq_some_iff.mp hk).1
      exact ⟨wt_row hW rm, by omega⟩
    have big : ∀ i, ((cI t.length ++ [10]) ++ ((t.drop 1).take i).flatMap (fun r => cR r ++ [10])).length ≤ 20 + 400 * 19 := fun i => by
      have a := cI_len (n := t.length) h20
      have b := flat_len (f := fun r => cR r ++ [10]) (B := 400) (l := (t.drop 1).take i) fun r hr => by
        obtain ⟨r1, r2⟩ := rows r (List.mem_of_mem_take hr)
        have := cR_len r1
        rw [List.length_append]
        show _ + 1 ≤ 400
        omega
      have c : ((t.drop 1).take i).length ≤ 19 := by rw [List.length_take]; omega
      rw [List.length_append, List.length_append]
      show _ + 1 + _ ≤ _
      omega
    refine ⟨sl, rfl, ⟨_, hsl⟩, for_tup (xs := rs.drop 1) (fun i σ Hy => ∃ s x2 x3, σ = [some (.ref tp), some (.str s), x2, x3] ∧ TL.tl s = (cI t.length ++ [10]) ++ ((t.drop 1).take i).flatMap (fun r => cR r ++ [10]) ∧ SqT K Hy sl (rs.drop 1) ∧ Sm H Hy)
      ⟨L0, none, none, rfl, by rw [hL0]; simp, hsl, s1⟩ (fun i σ Hy _ hI => ?_) (fun i y σ Hy hy hI => ?_) (fun σ Hy hI => ?_)⟩
    · obtain ⟨_, _, _, _, _, h, _⟩ := hI
      exact h
    · obtain ⟨s, x2, x3, rfl, hcd, hsl', sy⟩ := hI
      have hi : i < (t.drop 1).length := by rw [← hdl]; exact (List.getElem?_eq_some_iff.mp hy).1
      obtain ⟨r, p, hr, rfl, hp⟩ := row_at78 hR hy
      obtain ⟨r1, r2⟩ := rows r (List.mem_of_getElem? hr)
      have sl0 : s.length ≤ 20 + 400 * 19 := by rw [TL.len_tl, hcd]; exact big i
      show _
      refine ⟨.str s, rfl, _, _, rfl, rfl, fit sl0 w3 (by decide), ?_⟩
      refine nx_mk ?_
      have hsa : TL.tl (s ++ Str.ofString "row") = ((cI t.length ++ [10]) ++ ((t.drop 1).take i).flatMap (fun r => cR r ++ [10])) ++ wRow := by rw [TL.tl_append, hcd, v3]
      have sla : (s ++ Str.ofString "row").length ≤ 20 + 400 * 19 + 20 := sapp78 sl0 w3
      generalize s ++ Str.ofString "row" = sa at hsa sla
      refine ⟨.ref p, rfl, p, rfl, ⟨_, sy.sqT hp⟩, for_tup (xs := r.map V.int) (fun j σ Hz => ∃ s' x3, σ = [some (.ref tp), some (.str s'), some (.ref p), x3] ∧ TL.tl s' = TL.tl sa ++ (r.take j).flatMap (fun x => 32 :: numI x) ∧ Hz = Hy)
        ⟨sa, x3, rfl, by simp, rfl⟩ (fun j σ Hz _ hI => ?_) (fun j z σ Hz hz hI => ?_) (fun σ Hz hI => ?_)⟩
      · obtain ⟨_, _, _, _, rfl⟩ := hI
        exact sy.sqT hp
      · obtain ⟨s', x3', rfl, hc', rfl⟩ := hI
        rw [List.getElem?_map] at hz
        obtain ⟨x, hx, rfl⟩ := Option.map_eq_some_iff.mp hz
        have lx := r1 x (List.mem_of_getElem? hx)
        have sl' : s'.length ≤ 20 + 400 * 19 + 20 + 14 * 20 := by
          rw [TL.len_tl, hc', List.length_append, ← TL.len_tl]
          have a := flat_len (f := fun x => 32 :: numI x) (B := 14) (l := r.take j) fun y hy => by
            have := numI_len (i := y) (by have := (r1 y (List.mem_of_mem_take hy)).2; omega)
            show _ + 1 ≤ 14
            omega
          have b : (r.take j).length ≤ 20 := by rw [List.length_take]; omega
          omega
        have nx : TL.tl (toString x : Str) = numI x := tl_int (by have := lx.1; omega)
        have nl : (toString x : Str).length ≤ 13 := by rw [TL.len_tl, nx]; exact numI_len (by have := lx.2; omega)
        show _
        refine ⟨.str s', rfl, _, _, rfl, rfl, fit sl' w4 (by decide), .int x, rfl, x, rfl, log_lv78 (by have := lx.1; omega) lx.2, _, _, rfl, rfl, fit (sapp78 sl' w4) nl (by decide), ?_⟩
        refine ⟨_, _, rfl, ?_, rfl⟩
        rw [TL.tl_append, TL.tl_append, hc', v4, nx, List.take_add_one, hx, List.flatMap_append]
        simp
      · obtain ⟨s', x3', rfl, hc', rfl⟩ := hI
        rw [List.length_map, List.take_length] at hc'
        have sl' : s'.length ≤ 20 + 400 * 19 + 20 + 14 * 20 := by
          rw [TL.len_tl, hc', List.length_append, ← TL.len_tl]
          have a := flat_len (f := fun x => 32 :: numI x) (B := 14) (l := r) fun y hy => by
            have := numI_len (i := y) (by have := (r1 y hy).2; omega)
            show _ + 1 ≤ 14
            omega
          omega
        show _
        refine ⟨.str s', rfl, _, _, rfl, rfl, fit sl' w2 (by decide), ?_⟩
        refine ⟨_, _, _, rfl, ?_, hsl', sy⟩
        rw [TL.tl_append, hc', hsa, v2, List.take_add_one, hr, List.flatMap_append]
        simp [cR]
    · obtain ⟨s, x2, x3, rfl, hcd, hsl', sy⟩ := hI
      rw [hdl, List.take_length] at hcd
      show _
      refine ⟨.str s, rfl, q _ s sy ?_⟩
      rw [hcd]
      unfold ctab cLines
      rw [List.flatMap_cons, List.flatMap_map]
end
section
variable {P : Program} {w : World} {K : PySem.W.Frag} {mg : Str → Option Value} {base : Heap}
/-! ### the program: items, levels between items -/
def sp_whole : Sp := fun vs H Q _ => ∃ i : Int, vs = [.int i] ∧ Q (.bl true) H
theorem ok_whole {f : Addr} {fd : FuncData} {k : Nat} (F : Fun K "is_whole" "is_whole" s_is_whole f fd) (B : Bi mg) : FnOk P w K mg base CX0 (k + 1) f fd ["value"] sp_whole := by
  refine F.ok sc_is_whole (fun vs H Q E h => ?_) (fun cdv A outer s H vs Q E hr h => ?_)
  · obtain ⟨i, rfl, _⟩ := h
    rfl
  · obtain ⟨i, rfl, q⟩ := h
    refine ⟨_, pss_one (ps_ret (pe_and (pe_callB call_isi (by rfl) B.isinstance (by decide +kernel) (pa_cons (pv 0) (pa_cons (pe_bltn (by rfl) B.int (by decide +kernel) (v := .ty "int") rfl) pa_nil)))
      (pe_one (pe_not (pe_callB call_isi (by rfl) B.isinstance (by decide +kernel) (pa_cons (pv 0) (pa_cons (pe_bltn (by rfl) B.bool (by decide +kernel) (v := .ty "bool") rfl) pa_nil))))))), ?_⟩
    exact ⟨_, rfl, .int i, .ty "int", .type "int", _, true, rfl, .ty _, .base (.int i), kit_ty (show kitB "int" "int" = some true by decide +kernel), true, rfl, ⟨_, rfl, .int i, .ty "bool", .type "int", _, false, rfl, .ty _, .base (.int i), kit_ty (show kitB "int" "bool" = some false by decide +kernel), false, rfl, q⟩⟩
end
section
variable {P : Program} {w : World} {K : PySem.W.Frag} {mg : Str → Option Value} {base : Heap}
/-! ### the program: a table has no fault -/
def sp_isl : Sp := fun vs H Q _ => ∃ x : Int, vs = [.int x] ∧ LvOk x ∧ Q (.bl true) H
theorem ok_isl {f fW : Addr} {fd fdW : FuncData} (F : Fun K "is_level" "is_level" s_is_level f fd) (DW : Df K mg "is_whole" s_is_whole fW fdW ["value"]) (gL : ∃ t, mg "LEVEL" = some (.int 1000000000000 t)) (B : Bi mg) : FnOk P w K mg base CX0 2 f fd ["value"] sp_isl := by
  obtain ⟨tL, gL⟩ := gL
  have GW : FnOk P w K mg base CX0 1 fW fdW ["value"] sp_whole := ok_whole DW.F B
  refine F.ok sc_is_level (fun vs H Q E h => ?_) (fun cdv A outer s H vs Q E hr h => ?_)
  · obtain ⟨x, rfl, _⟩ := h
    rfl
  · obtain ⟨x, rfl, hx, q⟩ := h
    refine ⟨_, pss_one (ps_ret (pe_and (pe_cl DW GW hr (pa_cons (pv 0) pa_nil)) (pe_one (pe_chain op_le op_le pe_int (pv 0) (pe_glob (v := .int 1000000000000) rfl gL ⟨_, rfl⟩))))), ?_⟩
    refine ⟨.int x, rfl, x, rfl, true, rfl, ⟨.int x, rfl, _, _, rfl, rfl, true, ?_, ⟨_, _, rfl, rfl, ?_⟩⟩⟩
    · show V.bl (decide ((1 : Int) ≤ x)) = V.bl true
      rw [decide_eq_true hx.1]
    · show Q (V.bl (decide (x ≤ (1000000000000 : Int)))) H
      rw [decide_eq_true hx.2]
      exact q
end
section
variable {P : Program} {w : World} {K : PySem.W.Frag} {mg : Str → Option Value} {base : Heap}
/-! ### the program: reading a text -/
theorem pe_removeprefix78 {X : Cx} {o e : Expr} {to te : TE} {apos pos : Pos} (ho : PE X o to) (he : PE X e te) (hs : starEach [e] X.env = [(false, eval e X.env)] := by rfl) (hbase : attributeBase o "removeprefix" X.env (eval o X.env) = eval o X.env := by rfl) (hline : (apos.endLine == pos.line) = true := by rfl) :
    PE X (.Call (.Attribute o "removeprefix" apos) [e] [] pos) (tM1 (fun x xs H Q => ∃ a b, x = .str a ∧ xs = [.str b] ∧ a.length ≤ sizeLine ∧ Q (.str (Txt.removeprefix a b)) H) to te) :=
  pe_m1 PySem.F.slot_str_removeprefix PySem.F.type_str_removeprefix mt_removeprefix ho he hs hbase hline
theorem pe_isascii78 {X : Cx} {o : Expr} {to : TE} {apos pos : Pos} (ho : PE X o to) (hbase : attributeBase o "isascii" X.env (eval o X.env) = eval o X.env := by rfl) (hline : (apos.endLine == pos.line) = true := by rfl) :
    PE X (.Call (.Attribute o "isascii" apos) [] [] pos) (tM0 (fun x xs H Q => ∃ a, x = .str a ∧ xs = [] ∧ True ∧ Q (.bl (Txt.isascii a)) H) to) :=
  pe_m0 PySem.F.slot_str_isascii PySem.F.type_str_isascii mt_isascii ho hbase hline
theorem pe_isdigit78 {X : Cx} {o : Expr} {to : TE} {apos pos : Pos} (ho : PE X o to) (hbase : attributeBase o "isdigit" X.env (eval o X.env) = eval o X.env := by rfl) (hline : (apos.endLine == pos.line) = true := by rfl) :
    PE X (.Call (.Attribute o "isdigit" apos) [] [] pos) (tM0 (fun x xs H Q => ∃ a, x = .str a ∧ xs = [] ∧ True ∧ Q (.bl (Txt.isdigit a)) H) to) :=
  pe_m0 PySem.F.slot_str_isdigit PySem.F.type_str_isdigit mt_isdigit ho hbase hline
theorem pe_lenS78 {X : Cx} {a : Expr} {ta : TE} {p pos : Pos} (B : Bi X.mg) (ha : PE X a ta) (hg : Gl X "len" := by rfl) (he : starEach [a] X.env = (false, eval a X.env) :: starEach [] X.env := by rfl) :
    PE X (.Call (.Name "len" p) [a] [] pos) (tCB (fun xs H Q => ∃ z, xs = [.str z] ∧ z.length ≤ sizeLine ∧ Q (.int z.length) H) (tCons ta tNil)) :=
  pe_callB call_len_str hg B.len PySem.boot_len (pa_cons ha pa_nil he) (by decide) (by decide) he
def sp_num78 : Sp := fun vs H Q _ => ∃ (s : Str) (i : Int), vs = [.str s] ∧ 0 ≤ i ∧ i ≤ 1000000000000 ∧ TL.tl s = numI i ∧ Q (.int i) H
theorem ok_num78 {f : Addr} {fd : FuncData} {k : Nat} (F : Fun K "number_of" "number_of" s_number_of f fd) (gD : ∃ t, mg "DIGITS" = some (.int 13 t)) (B : Bi mg) : FnOk P w K mg base CX0 (k + 1) f fd ["word"] sp_num78 := by
  obtain ⟨tD, gD⟩ := gD
  refine F.ok sc_number_of (fun vs H Q E h => ?_) (fun cdv A outer s H vs Q E hr h => ?_)
  · obtain ⟨s, i, rfl, _⟩ := h
    rfl
  · obtain ⟨s, i, rfl, h0, h12, hs, q⟩ := h
    have nd := sc_number_of.nd
    refine ⟨_, (pss_cons (ps_set (i := 1) nd rfl (.inl rfl) (pe_removeprefix78 (pv 0) pe_str))
      (pss_cons (ps_if (PW.pt (pw_or (pt_not (pt_val (pe_isascii78 (pv 1)))) (pw_or (pt_not (pt_val (pe_isdigit78 (pv 1)))) (pw_or1 (pt_cmpR op_gt (pe_lenS78 B (pv 1)) (pe_glob (v := .int 13) rfl gD ⟨_, rfl⟩) (nomark _))))))
      pss_never
      pss_nil)
      (pss_cons (ps_set (i := 2) nd rfl (.inl rfl) (pe_callTy call_int_str (by rfl) B.int (by decide +kernel) (pa_cons (pv 0) pa_nil)))
      (pss_one (ps_ret (pe_ifExp (pt_cmpR op_eq (pe_callTy call_str_int (by rfl) B.str (by decide +kernel) (pa_cons (pv 2) pa_nil)) (pv 0) (nomark _)) (pv 2) pe_non)))))), ?_⟩
    obtain ⟨f1, f2, f3, f4, f5, f6⟩ := num_facts h0 (by omega) hs
    refine ⟨.str s, rfl, ⟨_, rfl⟩, s, _, rfl, rfl, sl_small78 (by omega), ?_⟩
    show _
    refine nx_mk ?_
    have e1 : Txt.removeprefix s (Str.ofString "-") = s := f1
    rw [e1]
    refine ⟨.str s, rfl, ⟨_, rfl⟩, s, rfl, rfl, trivial, ?_⟩
    rw [f2]
    refine ⟨_, rfl, ?_⟩
    refine iteF ?_
    refine ⟨.str s, rfl, ⟨_, rfl⟩, s, rfl, rfl, trivial, ?_⟩
    rw [f3]
    refine ⟨_, rfl, ?_⟩
    refine iteF ?_
    refine ⟨.str s, rfl, s, rfl, sl_small78 (by omega), _, _, rfl, rfl, _, rfl, ?_⟩
    rw [decide_eq_false (show ¬ ((s.length : Nat) : Int) > 13 by omega)]
    refine iteF ?_
    refine nx_mk ?_
    refine ⟨.str s, rfl, s, i, rfl, f5, by omega, ?_⟩
    refine nx_mk ?_
    refine ⟨.int i, rfl, i, rfl, log_lv78 h0 h12, .str s, rfl, rfl, _, rfl, ?_⟩
    rw [← f6, decide_eq_true rfl]
    refine iteT ?_
    exact ⟨.int i, rfl, q⟩
def sp_cnt78 : Sp := fun vs H Q _ => ∃ (s : Str) (n : Nat), vs = [.str s] ∧ 1 ≤ n ∧ n ≤ 12 ∧ TL.tl s = cI n ∧ ∀ H', Sm H H' → Q (.int (n : Int)) H'
theorem ok_cnt78 {f fN : Addr} {fd fdN : FuncData} {k : Nat} (F : Fun K "count_in" "count_in" s_count_in f fd) (D_number_of : Df K mg "number_of" s_number_of fN fdN ["word"]) (gD : ∃ t, mg "DIGITS" = some (.int 13 t)) (gI : ∃ t, mg "ITEMS" = some (.int 12 t)) (B : Bi mg) : FnOk P w K mg base CX0 (k + 2) f fd ["line"] sp_cnt78 := by
  have G_number_of : FnOk P w K mg base CX0 (k + 1) fN fdN ["word"] sp_num78 := ok_num78 D_number_of.F gD B
  obtain ⟨tI, gI⟩ := gI
  refine F.ok sc_count_in (fun vs H Q E h => ?_) (fun cdv A outer s H vs Q E hr h => ?_)
  · obtain ⟨s, n, rfl, _⟩ := h
    rfl
  · obtain ⟨s, n, rfl, h1, h12, hs, q⟩ := h
    have nd := sc_count_in.nd
    refine ⟨_, (pss_cons (ps_set (i := 1) nd rfl (.inl rfl) (pe_split (pv 0) pe_str))
      (pss_cons (ps_if (PW.pt (pw_or (pt_cmpR op_ne (pe_len B (pv 1)) pe_int (nomark _)) (pw_or1 (pt_cmpR op_ne (pe_ix ix_list (pv 1) pe_int (fun _ _ => rfl)) pe_str (nomark _)))))
      pss_never
      pss_nil)
      (pss_cons (ps_set (i := 2) nd rfl (.inl rfl) (pe_cl D_number_of G_number_of hr (pa_cons (pe_ix ix_list (pv 1) pe_int (fun _ _ => rfl)) pa_nil)))
      (pss_one (ps_ret (pe_ifExp (PW.pt (pw_and (pt_cmpR op_notN (pv 2) pe_non (nomark _)) (pw_and1 (pt_chain op_le op_le pe_int (pv 2) (pe_glob (v := .int 12) rfl gI ⟨_, rfl⟩))))) (pv 2) pe_non)))))), ?_⟩
    have v1 : TL.tl (Str.ofString " ") = [32] := by decide +kernel
    have v2 : (Str.ofString " ").cps.all (· < 256) = true := by decide +kernel
    have v3 : ((Str.ofString " ").length == 0) = false := by decide +kernel
    have v4 : TL.tl (Str.ofString "items") = wItems := by decide +kernel
    have slen : s.length ≤ 1000 := by
      rw [TL.len_tl, hs]
      exact Nat.le_trans (cI_len (by omega)) (by decide)
    have sp := split_codes (s := s) v1 v2 (parts := [wItems, TL.numL n]) (by simp) (fun p hp => by
      rcases List.mem_cons.mp hp with rfl | hp
      · exact nf_items.2
      · rw [List.mem_singleton.mp hp]
        exact TL.numL_free (by omega)) (by rw [hs]; rfl)
    obtain ⟨a, b, eab, ha, hb⟩ : ∃ a b, Txt.split s (Str.ofString " ") = [a, b] ∧ TL.tl a = wItems ∧ TL.tl b = TL.numL n := by
      cases hsp : Txt.split s (Str.ofString " ") with
      | nil => rw [hsp] at sp; simp at sp
      | cons a l =>
        rw [hsp] at sp
        cases l with
        | nil => simp at sp
        | cons b l =>
          cases l with
          | nil =>
            obtain ⟨z1, z2⟩ := List.cons.inj sp
            exact ⟨a, b, rfl, z1, (List.cons.inj z2).1⟩
          | cons c l => simp at sp
    have ea : a = Str.ofString "items" := TL.ext_tl (by rw [ha, v4])
    refine ⟨.str s, rfl, ⟨_, rfl⟩, s, _, rfl, rfl, v3, sl_small78 (by omega), fun p hp => ?_⟩
    have s1 : Sm H (upd H p (.lst ((Txt.split s (Str.ofString " ")).map V.str))) := Sm.new hp
    have hp1 : (upd H p (.lst ((Txt.split s (Str.ofString " ")).map V.str))) p = some (.lst [.str a, .str b]) := by rw [eab]; exact upd_same
    generalize upd H p (.lst ((Txt.split s (Str.ofString " ")).map V.str)) = H1 at s1 hp1
    refine nx_mk ?_
    refine ⟨.ref p, rfl, p, _, rfl, .inl (SqL.of hp1), rfl, _, rfl, iteNS rfl ?_⟩
    refine ⟨.ref p, rfl, p, _, 0, _, rfl, rfl, SqL.of hp1, atI_nat (j := 0) rfl, rfl, _, rfl, ?_⟩
    rw [ea]
    refine iteNS rfl ?_
    refine nx_mk ?_
    refine ⟨.ref p, rfl, p, _, 1, _, rfl, rfl, SqL.of hp1, atI_nat (j := 1) rfl, b, (n : Int), rfl, by omega, by omega, hb, ?_⟩
    refine nx_mk ?_
    refine ⟨.int (n : Int), rfl, rfl, _, rfl, ?_⟩
    refine iteT ?_
    refine ⟨.int (n : Int), rfl, _, _, rfl, rfl, true, ?_, ⟨_, _, rfl, rfl, _, rfl, ?_⟩⟩
    · show V.bl (decide ((1 : Int) ≤ (n : Int))) = V.bl true
      rw [decide_eq_true (show (1 : Int) ≤ (n : Int) by omega)]
    · rw [decide_eq_true (show (n : Int) ≤ 12 by omega)]
      exact iteT ⟨.int (n : Int), rfl, q _ s1⟩
def sp_row78 (K : PySem.W.Frag) : Sp := fun vs H Q _ => ∃ (s : Str) (n : Nat) (r : List Int), vs = [.str s, .int (n : Int)] ∧ TL.tl s = cR r ∧ r.length = n ∧ n ≤ 20 ∧ (∀ x ∈ r, LvOk x) ∧ ∀ (H' : Hp) (p : Addr), Sm H H' → SqT K H' p (r.map V.int) → Q (.ref p) H'
set_option maxHeartbeats 8000000 in
theorem ok_row78 {f fN fL fW : Addr} {fd fdN fdL fdW : FuncData} (F : Fun K "row_in" "row_in" s_row_in f fd) (D_number_of : Df K mg "number_of" s_number_of fN fdN ["word"]) (D_is_level : Df K mg "is_level" s_is_level fL fdL ["value"]) (DW : Df K mg "is_whole" s_is_whole fW fdW ["value"]) (gD : ∃ t, mg "DIGITS" = some (.int 13 t)) (gL : ∃ t, mg "LEVEL" = some (.int 1000000000000 t)) (B : Bi mg) : FnOk P w K mg base CX0 3 f fd ["line", "size"] (sp_row78 K) := by
  have G_number_of : FnOk P w K mg base CX0 2 fN fdN ["word"] sp_num78 := ok_num78 D_number_of.F gD B
  have G_is_level : FnOk P w K mg base CX0 2 fL fdL ["value"] sp_isl := ok_isl D_is_level.F DW gL B
  refine F.ok sc_row_in (fun vs H Q E h => ?_) (fun cdv A outer s H vs Q E hr h => ?_)
  · obtain ⟨s, n, r, rfl, _⟩ := h
    rfl
  · obtain ⟨s, n, r, rfl, hs, hl, h20, hL, q⟩ := h
    have nd := sc_row_in.nd
    refine ⟨_, (pss_cons (ps_set (i := 2) nd rfl (.inl rfl) (pe_split (pv 0) pe_str))
      (pss_cons (ps_set (i := 3) nd rfl (.inl rfl) (pe_callTy call_tuple_of (by rfl) B.tuple (by decide +kernel) (pa_cons (pe_lc (own := [("word", 4)]) (g := gName 4) (tt := tYes) (te := tCall sp_num78 [] E0 (tCons (tVar 4) tNil)) rfl nd (pi_list (pe_slice sl_list (pv 2) (po_some pe_int) po_none)) (blkOk_by (N := N_row_in) (sc := defScope s_row_in) (by decide +kernel))
            (fun _ _ _ _ _ => pg_name (i := 4) nd rfl (.inl rfl)) (fun _ _ _ _ _ => pts_nil) (fun _ _ _ _ _ => (pe_cl D_number_of G_number_of hr (pa_cons (pv 4) pa_nil)))) pa_nil)))
      (pss_cons (ps_if (PW.pt (pw_or (pt_cmpR op_ne (pe_ix ix_list (pv 2) pe_int (fun _ _ => rfl)) pe_str (nomark _)) (pw_or1 (pt_cmpR op_ne (pe_len B (pv 3)) (pv 1) (nomark _)))))
      pss_never
      pss_nil)
      (pss_one (ps_ret (pe_ifExp (pt_val (pe_callB (cr_all rfl) (by rfl) B.all (by decide +kernel) (pa_cons (pe_lc (own := [("level", 5)]) (g := gName 5) (tt := tYes) (te := tCall sp_isl [] E0 (tCons (tVar 5) tNil)) rfl nd (pi_tup (pv 3)) (blkOk_by (N := N_row_in) (sc := defScope s_row_in) (by decide +kernel))
            (fun _ _ _ _ _ => pg_name (i := 5) nd rfl (.inl rfl)) (fun _ _ _ _ _ => pts_nil) (fun _ _ _ _ _ => (pe_cl D_is_level G_is_level hr (pa_cons (pv 5) pa_nil)))) pa_nil))) (pv 3) pe_non)))))), ?_⟩
    have v1 : TL.tl (Str.ofString " ") = [32] := by decide +kernel
    have v2 : (Str.ofString " ").cps.all (· < 256) = true := by decide +kernel
    have v3 : ((Str.ofString " ").length == 0) = false := by decide +kernel
    have v4 : TL.tl (Str.ofString "row") = wRow := by decide +kernel
    have slen : s.length ≤ 1000 := by
      rw [TL.len_tl, hs]
      have := cR_len hL
      omega
    have sp := split_codes (s := s) v1 v2 (parts := wRow :: r.map numI) (by simp) (words_free r) (by rw [hs, cR_join])
    obtain ⟨a, ws, eab, ha, hws⟩ : ∃ a ws, Txt.split s (Str.ofString " ") = a :: ws ∧ TL.tl a = wRow ∧ ws.map TL.tl = r.map numI := by
      cases hsp : Txt.split s (Str.ofString " ") with
      | nil => rw [hsp] at sp; simp at sp
      | cons a l =>
        rw [hsp] at sp
        obtain ⟨z1, z2⟩ := List.cons.inj sp
        exact ⟨a, l, rfl, z1, z2⟩
    have ea : a = Str.ofString "row" := TL.ext_tl (by rw [ha, v4])
    have wl : ws.length = r.length := by
      have := congrArg List.length hws
      rw [List.length_map, List.length_map] at this
      exact this
    refine ⟨.str s, rfl, ⟨_, rfl⟩, s, _, rfl, rfl, v3, sl_small78 (by omega), fun p hp => ?_⟩
    have s1 : Sm H (upd H p (.lst ((Txt.split s (Str.ofString " ")).map V.str))) := Sm.new hp
    have hp1 : (upd H p (.lst ((Txt.split s (Str.ofString " ")).map V.str))) p = some (.lst ((a :: ws).map V.str)) := by rw [eab]; exact upd_same
    generalize upd H p (.lst ((Txt.split s (Str.ofString " ")).map V.str)) = H1 at s1 hp1
    refine nx_mk ?_
    refine ⟨.ref p, rfl, _, rfl, p, _, rfl, SqL.of hp1, fun p2 hp2 => ?_⟩
    rw [show (1 : Int) = ((1 : Nat) : Int) from rfl, cut_from]
    have s2 : Sm H1 (upd H1 p2 (.lst (((a :: ws).map V.str).drop 1))) := Sm.new hp2
    have hp22 : (upd H1 p2 (.lst (((a :: ws).map V.str).drop 1))) p2 = some (.lst (ws.map V.str)) := upd_same
    generalize upd H1 p2 (.lst (((a :: ws).map V.str).drop 1)) = H2 at s2 hp22
    refine ⟨p2, rfl, ⟨_, SqL.of hp22⟩, fun D hD => lc_list (xs := ws.map V.str) (fun i Hy => Hy D = some (.lst ((r.take i).map V.int)) ∧ Sm H2 Hy) ⟨upd_same, Sm.new hD⟩ (fun i Hy _ hQ => SqL.of (hQ.2 _ _ hp22)) (fun i y Hy hy hQ => ?_) (fun Hy hQ => ?_)⟩
    · obtain ⟨g1, sy⟩ := hQ
      rw [List.getElem?_map] at hy
      obtain ⟨w, hw, rfl⟩ := Option.map_eq_some_iff.mp hy
      have hi : i < r.length := by rw [← wl]; exact (List.getElem?_eq_some_iff.mp hw).1
      obtain ⟨x, hx⟩ : ∃ x, r[i]? = some x := ⟨_, List.getElem?_eq_getElem hi⟩
      have lx := hL x (List.mem_of_getElem? hx)
      have hwx : TL.tl w = numI x := by
        have := congrArg (fun l => l[i]?) hws
        simp only [List.getElem?_map, hw, hx] at this
        exact Option.some.inj this
      refine ⟨rfl, .str w, rfl, w, x, rfl, by have := lx.1; omega, lx.2, hwx, ?_⟩
      refine ⟨_, g1, by rw [List.length_map, List.length_take]; exact small1000 (by omega), ?_, fun cc o e => by rw [upd_ne (ne_of_none e hD)]; exact sy cc o e⟩
      rw [upd_same, List.take_add_one, hx, List.map_append]
      rfl
    obtain ⟨g1, sy⟩ := hQ
    rw [List.length_map, wl, List.take_length] at g1
    refine ⟨D, _, rfl, .inl ⟨SqL.of g1, fun pt hpt => ?_⟩⟩
    have s3 : Sm Hy (upd Hy pt (.tup (r.map V.int))) := Sm.new hpt
    have hpt3 : SqT K (upd Hy pt (.tup (r.map V.int))) pt (r.map V.int) := SqT.of upd_same
    generalize upd Hy pt (.tup (r.map V.int)) = H3 at s3 hpt3
    refine nx_mk ?_
    have s13 := s2.trans (sy.trans s3)
    refine ⟨.ref p, rfl, p, _, 0, _, rfl, rfl, SqL.of (s13 _ _ hp1), atI_nat (j := 0) rfl, rfl, _, rfl, ?_⟩
    rw [ea]
    refine iteNS rfl ?_
    refine ⟨.ref pt, rfl, pt, _, rfl, .inr hpt3, .int (n : Int), rfl, rfl, _, rfl, iteNS (by rw [List.length_map, hl]) ?_⟩
    refine nx_mk ?_
    have all : ∀ m : Nat, ((List.replicate m true).map V.bl) ++ [V.bl true] = (List.replicate (m + 1) true).map V.bl := fun m => by
      rw [List.replicate_succ', List.map_append]
      rfl
    refine ⟨.ref pt, rfl, pt, rfl, ⟨_, hpt3⟩, fun D2 hD2 => lc_tup (xs := r.map V.int) (fun i Hz => Hz D2 = some (.lst ((List.replicate i true).map V.bl)) ∧ Sm H3 Hz) ⟨upd_same, Sm.new hD2⟩ (fun i Hz _ hQ => hQ.2.sqT hpt3) (fun i y Hz hy hQ => ?_) (fun Hz hQ => ?_)⟩
    · obtain ⟨k1, sz⟩ := hQ
      rw [List.getElem?_map] at hy
      obtain ⟨x, hx, rfl⟩ := Option.map_eq_some_iff.mp hy
      have hi := (List.getElem?_eq_some_iff.mp hx).1
      refine ⟨rfl, .int x, rfl, x, rfl, hL x (List.mem_of_getElem? hx), ?_⟩
      refine ⟨_, k1, by rw [List.length_map, List.length_replicate]; exact small1000 (by omega), ?_, fun cc o e => by rw [upd_ne (ne_of_none e hD2)]; exact sz cc o e⟩
      rw [upd_same, all]
    obtain ⟨k1, sz⟩ := hQ
    refine ⟨D2, _, rfl, SqL.of k1, _, rfl, ?_⟩
    have et : ∀ m : Nat, (List.replicate m true).all _root_.id = true := fun m => List.all_eq_true.mpr fun b hb => by rw [List.eq_of_mem_replicate hb]; rfl
    rw [et]
    exact iteT ⟨.ref pt, rfl, q _ _ (s1.trans (s13.trans sz)) (sz.sqT hpt3)⟩
end
section
variable {P : Program} {w : World} {K : PySem.W.Frag} {mg : Str → Option Value} {base : Heap}
/-! ### the program: the table of a text -/
def sp_plin78 (K : PySem.W.Frag) : Sp := fun vs H Q _ => ∃ (lo : Addr) (ls : List Str) (t : List (List Int)), vs = [.ref lo] ∧ H lo = some (.lst (ls.map V.str)) ∧ ls.map TL.tl = cLines t ∧ WT t ∧ 1 ≤ t.length ∧ t.length ≤ 12 ∧ ∀ (H' : Hp) (p q' : Addr) (xs : List V), Sm H H' → SqT K H' p [.int (t.length : Int), .ref q'] → H' q' = some (.lst xs) → Rows K H' xs t → Q (.ref p) H'
set_option maxHeartbeats 8000000 in
theorem ok_plin78 {f fC fR fN fL fW : Addr} {fd fdC fdR fdN fdL fdW : FuncData} (F : Fun K "parse_lines" "parse_lines" s_parse_lines f fd) (D_count_in : Df K mg "count_in" s_count_in fC fdC ["line"]) (D_row_in : Df K mg "row_in" s_row_in fR fdR ["line", "size"]) (D_number_of : Df K mg "number_of" s_number_of fN fdN ["word"]) (D_is_level : Df K mg "is_level" s_is_level fL fdL ["value"]) (DW : Df K mg "is_whole" s_is_whole fW fdW ["value"])
    (gD : ∃ t, mg "DIGITS" = some (.int 13 t)) (gI : ∃ t, mg "ITEMS" = some (.int 12 t)) (gL : ∃ t, mg "LEVEL" = some (.int 1000000000000 t)) (B : Bi mg) : FnOk P w K mg base CX0 4 f fd ["lines"] (sp_plin78 K) := by
  have G_count_in : FnOk P w K mg base CX0 3 fC fdC ["line"] sp_cnt78 := ok_cnt78 D_count_in.F D_number_of gD gI B
  have G_row_in : FnOk P w K mg base CX0 3 fR fdR ["line", "size"] (sp_row78 K) := ok_row78 D_row_in.F D_number_of D_is_level DW gD gL B
  refine F.ok sc_parse_lines (fun vs H Q E h => ?_) (fun cdv A outer s H vs Q E hr h => ?_)
  · obtain ⟨lo, ls, t, rfl, _⟩ := h
    rfl
  · obtain ⟨lo, ls, t, rfl, hlo, hls, hW, h1, h12, q⟩ := h
    have nd := sc_parse_lines.nd
    refine ⟨_, (pss_cons (ps_set (i := 1) nd rfl (.inl rfl) (pe_cl D_count_in G_count_in hr (pa_cons (pe_ix ix_list (pv 0) pe_int (fun _ _ => rfl)) pa_nil)))
      (pss_cons (ps_if (pt_cmpR op_isN (pv 1) pe_non (nomark _))
      pss_never
      pss_nil)
      (pss_cons (ps_set (i := 2) nd rfl (.inl rfl) (pe_lst (pa_cons (pe_tup pa_nil) pa_nil)))
      (pss_cons (ps_for PassesOwn.never rfl (pi_enum1 rfl B.enumerate (pa_cons (pe_slice sl_list (pv 0) (po_some pe_int) po_none) pa_nil) (pk_cons pe_int pk_nil)) (pg_tup rfl (pgs_cons (pg_name (i := 3) nd rfl (.inl rfl)) (pgs_cons (pg_name (i := 4) nd rfl (.inl rfl)) pgs_nil)))
      (pss_cons (ps_set (i := 5) nd rfl (.inl rfl) (pe_cl D_row_in G_row_in hr (pa_cons (pv 4) (pa_cons (pv 3) pa_nil))))
      (pss_cons (ps_if (PW.pt (pw_or (pt_cmpR op_ge (pv 3) (pv 1) (nomark _)) (pw_or1 (pt_cmpR op_isN (pv 5) pe_non (nomark _)))))
      pss_never
      pss_nil)
      (pss_one (ps_expr (pe_bm PySem.F.plainAttrs_list PySem.F.slot_list_append PySem.F.type_list_append mt_append (pv 2) (pa_cons (pv 5) pa_nil)))))))
      (pss_one (ps_ret (pe_tup (pa_cons (pv 1) (pa_cons (pv 2) pa_nil))))))))), ?_⟩
    have ll : ls.length = t.length := by
      have := congrArg List.length hls
      unfold cLines at this
      rw [List.length_map, List.length_cons, List.length_map, List.length_drop] at this
      omega
    obtain ⟨l0, hl0⟩ : ∃ l0, ls[0]? = some l0 := ⟨_, List.getElem?_eq_getElem (by omega)⟩
    have hc0 : TL.tl l0 = cI t.length := by
      have := congrArg (fun l => l[0]?) hls
      simp only [List.getElem?_map, hl0] at this
      exact Option.some.inj this
    refine ⟨.ref lo, rfl, lo, _, 0, _, rfl, rfl, SqL.of hlo, atI_nat (j := 0) (by rw [List.getElem?_map, hl0]; rfl), l0, t.length, rfl, h1, h12, hc0, fun H1 s1 => ?_⟩
    refine nx_mk ?_
    refine ⟨.int (t.length : Int), rfl, rfl, _, rfl, ?_⟩
    refine iteF ?_
    show _
    refine nx_mk ?_
    refine ⟨Nat.zero_le _, fun e0 he0 => ⟨small1000 (Nat.le_of_ble_eq_true rfl), fun rw he1 => ?_⟩⟩
    have sE := Sm.new (o := .tup []) he0
    have qe : SqT K (upd H1 e0 (.tup [])) e0 [] := SqT.of upd_same
    generalize upd H1 e0 (.tup []) = H2 at sE he1 qe
    have s3 : Sm H2 (upd H2 rw (.lst [.ref e0])) := Sm.new he1
    have h12' := s1.trans sE
    have hrwH : H rw = none := Sm.free h12' he1
    have hrw3 : (upd H2 rw (.lst [.ref e0])) rw = some (.lst [.ref e0]) := upd_same
    have q3 := s3.sqT qe
    have s03 := h12'.trans s3
    generalize upd H2 rw (.lst [.ref e0]) = H3 at s3 hrw3 q3 s03
    refine nx_mk ?_
    refine ⟨.ref lo, rfl, _, rfl, lo, _, rfl, SqL.of (s03 _ _ hlo), fun p2 hp2 => ?_⟩
    rw [show (1 : Int) = ((1 : Nat) : Int) from rfl, cut_from]
    have s4 : Sm H3 (upd H3 p2 (.lst ((ls.map V.str).drop 1))) := Sm.new hp2
    have hp24 : (upd H3 p2 (.lst ((ls.map V.str).drop 1))) p2 = some (.lst ((ls.map V.str).drop 1)) := upd_same
    have nrp : rw ≠ p2 := ne_of_none hrw3 hp2
    have hrw4 := s4 _ _ hrw3
    have q4 := s4.sqT q3
    have s04 := s03.trans s4
    generalize upd H3 p2 (.lst ((ls.map V.str).drop 1)) = H4 at s4 hp24 hrw4 q4 s04
    have et0 : t[0]? = some [] := by
      obtain ⟨r0, hr0⟩ : ∃ r0, t[0]? = some r0 := ⟨_, List.getElem?_eq_getElem (by omega)⟩
      rw [hr0, List.eq_nil_of_length_eq_zero (hW 0 r0 hr0).1]
    refine ⟨p2, _, rfl, rfl, SqL.of hp24, for_enum1 (xs := (ls.map V.str).drop 1) (fun i σ Hy => ∃ x3 x4 x5 xs, σ = [some (.ref lo), some (.int (t.length : Int)), some (.ref rw), x3, x4, x5] ∧ Hy rw = some (.lst xs) ∧ Rows K Hy xs (t.take (i + 1)) ∧ Hy p2 = some (.lst ((ls.map V.str).drop 1)) ∧ Sm H Hy)
      ⟨none, none, none, [.ref e0], rfl, hrw4, ?_, hp24, s04⟩ (fun i σ Hy hI => ?_) (fun i y T σ Hy hy hI hT => ?_) (fun σ Hy hI => ?_)⟩
    · rw [List.take_add_one, et0]
      exact Rows.nil.snoc ⟨e0, rfl, q4⟩
    · obtain ⟨_, _, _, _, _, _, _, h, _⟩ := hI
      exact SqL.of h
    · obtain ⟨x3, x4, x5, xs, rfl, hx, hR, hp, sy⟩ := hI
      rw [List.getElem?_drop, List.getElem?_map] at hy
      obtain ⟨l, hl, rfl⟩ := Option.map_eq_some_iff.mp hy
      have hi : 1 + i < t.length := by rw [← ll]; exact (List.getElem?_eq_some_iff.mp hl).1
      obtain ⟨r, hr⟩ : ∃ r, t[1 + i]? = some r := ⟨_, List.getElem?_eq_getElem hi⟩
      obtain ⟨rl, rL⟩ := hW _ r hr
      have hcl : TL.tl l = cR r := by
        have := congrArg (fun l => l[1 + i]?) hls
        unfold cLines at this
        rw [show 1 + i = i + 1 by omega] at this hr hl
        simp only [List.getElem?_map, hl, List.getElem?_cons_succ, List.getElem?_drop] at this
        rw [show 1 + i = i + 1 by omega, hr] at this
        exact Option.some.inj this
      have sT : Sm Hy (upd Hy T (.tup [.int ((i + 1 : Nat) : Int), .str l])) := Sm.new hT
      refine ⟨T, _, rfl, SqT.of upd_same, rfl, _, _, rfl, _, _, rfl, rfl, ?_⟩
      generalize upd Hy T (.tup [.int ((i + 1 : Nat) : Int), .str l]) = Hz at sT
      refine ⟨.str l, rfl, .int ((i + 1 : Nat) : Int), rfl, l, i + 1, r, rfl, hcl, by omega, by omega, rL, fun H5 p s5 hp5 => ?_⟩
      refine nx_mk ?_
      refine ⟨.int ((i + 1 : Nat) : Int), rfl, .int (t.length : Int), rfl, _, _, rfl, rfl, _, rfl, ?_⟩
      rw [decide_eq_false (show ¬ (((i + 1 : Nat) : Int) ≥ (t.length : Int)) by omega)]
      refine iteF ?_
      refine ⟨.ref p, rfl, rfl, _, rfl, ?_⟩
      refine iteF ?_
      show _
      have s6 := sT.trans s5
      have hx6 := s6 _ _ hx
      refine nx_mk ?_
      refine ⟨.ref rw, rfl, .inl ⟨rfl, _, SqL.of hx6⟩, .ref p, rfl, rw, xs, _, rfl, rfl, hx6, ?_, ?_⟩
      · have := hR.1
        rw [List.length_take] at this
        exact small1000 (by omega)
      refine ⟨_, _, _, xs ++ [.ref p], rfl, upd_same, ?_, by rw [upd_ne nrp.symm]; exact s6 _ _ hp, fun c o e => by rw [upd_ne (ne_of_none e hrwH)]; exact (sy.trans s6) c o e⟩
      rw [List.take_add_one (i := i + 1), show i + 1 = 1 + i by omega, hr]
      rw [show 1 + i = i + 1 by omega]
      exact ((hR.same s6).snoc ⟨p, rfl, hp5⟩).upd hx6
    · obtain ⟨x3, x4, x5, xs, rfl, hx, hR, hp, sy⟩ := hI
      rw [List.length_drop, List.length_map, ll, show t.length - 1 + 1 = t.length by omega, List.take_length] at hR
      show _
      refine ⟨.int (t.length : Int), rfl, .ref rw, rfl, small1000 (Nat.le_of_ble_eq_true rfl), fun pp hpp => ?_⟩
      have s9 := Sm.new (o := .tup [.int (t.length : Int), .ref rw]) hpp
      exact q _ pp rw xs (sy.trans s9) (SqT.of upd_same) (s9 _ _ hx) (hR.same s9)
end
section
variable {P : Program} {w : World} {K : PySem.W.Frag} {mg : Str → Option Value} {base : Heap}
def sp_ptab78 (K : PySem.W.Frag) : Sp := fun vs H Q _ => ∃ (s : Str) (t : List (List Int)), vs = [.str s] ∧ TL.tl s = ctab t ∧ WT t ∧ 1 ≤ t.length ∧ t.length ≤ 12 ∧ ∀ (H' : Hp) (v : V), Sm H H' → TT K H' v t → Q v H'
set_option maxHeartbeats 8000000 in
theorem ok_ptab78 {f fP fC fR fN fL fW : Addr} {fd fdP fdC fdR fdN fdL fdW : FuncData} (F : Fun K "parse_table" "parse_table" s_parse_table f fd) (D_parse_lines : Df K mg "parse_lines" s_parse_lines fP fdP ["lines"]) (D_count_in : Df K mg "count_in" s_count_in fC fdC ["line"]) (D_row_in : Df K mg "row_in" s_row_in fR fdR ["line", "size"]) (D_number_of : Df K mg "number_of" s_number_of fN fdN ["word"]) (D_is_level : Df K mg "is_level" s_is_level fL fdL ["value"]) (DW : Df K mg "is_whole" s_is_whole fW fdW ["value"])
    (gD : ∃ t, mg "DIGITS" = some (.int 13 t)) (gI : ∃ t, mg "ITEMS" = some (.int 12 t)) (gL : ∃ t, mg "LEVEL" = some (.int 1000000000000 t)) (B : Bi mg) : FnOk P w K mg base CX0 5 f fd ["value"] (sp_ptab78 K) := by
  have G_parse_lines : FnOk P w K mg base CX0 4 fP fdP ["lines"] (sp_plin78 K) := ok_plin78 D_parse_lines.F D_count_in D_row_in D_number_of D_is_level DW gD gI gL B
  refine F.ok sc_parse_table (fun vs H Q E h => ?_) (fun cdv A outer s0 H vs Q E hr h => ?_)
  · obtain ⟨s, t, rfl, _⟩ := h
    rfl
  · obtain ⟨s, t, rfl, hs, hW, h1, h12, q⟩ := h
    have nd := sc_parse_table.nd
    refine ⟨_, (pss_cons (ps_if (pt_not (pt_val (pe_callB call_isi (by rfl) B.isinstance (by decide +kernel) (pa_cons (pv 0) (pa_cons (pe_bltn (by rfl) B.str (by decide +kernel) (v := .ty "str") rfl) pa_nil)))))
      pss_never
      pss_nil)
      (pss_cons (ps_set (i := 1) nd rfl (.inl rfl) (pe_split (pv 0) pe_str))
      (pss_cons (ps_set (i := 2) nd rfl (.inl rfl) (pe_bm0 PySem.F.plainAttrs_list PySem.F.slot_list_pop PySem.F.type_list_pop mt_pop (pv 1)))
      (pss_cons (ps_if (pt_truth (pv 2) (fun _ => rfl))
      pss_never
      pss_nil)
      (pss_cons (ps_if (pt_not (pt_truth (pv 1) (fun _ => rfl)))
      pss_never
      pss_nil)
      (pss_cons (ps_asg (pe_cl D_parse_lines G_parse_lines hr (pa_cons (pv 1) pa_nil)) (pg_tup rfl (pgs_cons (pg_name (i := 3) nd rfl (.inl rfl)) (pgs_cons (pg_name (i := 4) nd rfl (.inl rfl)) pgs_nil))))
      (pss_cons (ps_if (PW.pt (pw_or (pt_truth (pv 2) (fun _ => rfl)) (pw_or1 (pt_cmpR op_lt (pe_len B (pv 4)) (pv 3) (nomark _)))))
      pss_never
      pss_nil)
      (pss_one (ps_ret (pe_callTy call_tuple_of (by rfl) B.tuple (by decide +kernel) (pa_cons (pv 4) pa_nil))))))))))), ?_⟩
    have v1 : TL.tl (Str.ofString "\n") = [10] := by decide +kernel
    have v2 : (Str.ofString "\n").cps.all (· < 256) = true := by decide +kernel
    have v3 : ((Str.ofString "\n").length == 0) = false := by decide +kernel
    have slen : s.length ≤ 20 + 400 * 12 := by
      rw [TL.len_tl, hs]
      unfold ctab
      refine Nat.le_trans (flat_len (f := fun l => l ++ [10]) (B := 400) fun l hl => ?_) ?_
      · rw [List.length_append]
        show _ + 1 ≤ 400
        rcases List.mem_cons.mp hl with rfl | hl
        · have := cI_len (n := t.length) (by omega)
          omega
        · obtain ⟨r, hr, rfl⟩ := List.mem_map.mp hl
          have rm := List.mem_of_mem_drop hr
          have a := cR_len (wt_row hW rm)
          obtain ⟨k, hk⟩ := List.getElem?_of_mem rm
          have b := (hW k r hk).1
          have c := (List.getElem?_eq_some_iff.mp hk).1
          omega
      · unfold cLines
        rw [List.length_cons, List.length_map, List.length_drop]
        omega
    have sp := split_codes (s := s) v1 v2 (parts := cLines t ++ [[]]) (by simp) lines_free (by rw [hs, ctab_join])
    obtain ⟨ls, z, eS, hls, hz⟩ : ∃ ls z, Txt.split s (Str.ofString "\n") = ls ++ [z] ∧ ls.map TL.tl = cLines t ∧ TL.tl z = [] := by
      obtain ⟨ls, z, e⟩ : ∃ ls z, Txt.split s (Str.ofString "\n") = ls ++ [z] := by
        rcases List.eq_nil_or_concat (Txt.split s (Str.ofString "\n")) with e | ⟨ls, z, e⟩
        · rw [e] at sp
          simp at sp
        · exact ⟨ls, z, by rw [e, List.concat_eq_append]⟩
      rw [e, List.map_append] at sp
      obtain ⟨a, b⟩ := List.append_inj' sp rfl
      exact ⟨ls, z, e, a, (List.cons.inj b).1⟩
    have zl : z.length = 0 := by rw [TL.len_tl, hz]; rfl
    have ll : ls.length = t.length := by
      have := congrArg List.length hls
      unfold cLines at this
      rw [List.length_map, List.length_cons, List.length_map, List.length_drop] at this
      omega
    refine ⟨.str s, rfl, .str s, .ty "str", .type "str", _, true, rfl, .ty _, .base (.str s), kit_ty (show kitB "str" "str" = some true by decide +kernel), _, rfl, ?_⟩
    refine iteF ?_
    show _
    refine nx_mk ?_
    refine ⟨.str s, rfl, ⟨_, rfl⟩, s, _, rfl, rfl, v3, sl_small78 (by omega), fun p hp => ?_⟩
    have s1 : Sm H (upd H p (.lst ((Txt.split s (Str.ofString "\n")).map V.str))) := Sm.new hp
    have hp1 : (upd H p (.lst ((Txt.split s (Str.ofString "\n")).map V.str))) p = some (.lst (ls.map V.str ++ [.str z])) := by rw [eS, List.map_append]; exact upd_same
    generalize upd H p (.lst ((Txt.split s (Str.ofString "\n")).map V.str)) = H1 at s1 hp1
    refine nx_mk ?_
    refine ⟨.ref p, rfl, .inl ⟨rfl, _, SqL.of hp1⟩, p, _, .str z, rfl, rfl, hp1, by rw [List.length_append]; show (ls.map V.str ++ [.str z])[(ls.map V.str).length + 1 - 1]? = _; rw [Nat.add_sub_cancel, List.getElem?_append_right (Nat.le_refl _), Nat.sub_self]; rfl, ?_⟩
    rw [List.dropLast_concat]
    have s2 : Sm H (upd H1 p (.lst (ls.map V.str))) := fun c o e => by rw [upd_ne (ne_of_none e hp)]; exact s1 c o e
    have hp2 : (upd H1 p (.lst (ls.map V.str))) p = some (.lst (ls.map V.str)) := upd_same
    generalize upd H1 p (.lst (ls.map V.str)) = H2 at s2 hp2
    refine nx_mk ?_
    have zf : ((z.length : Int) != 0) = false := by rw [zl]; rfl
    refine ⟨.str z, rfl, false, ⟨sl_small78 (by omega), zf.symm⟩, iteF ?_⟩
    show _
    refine nx_mk ?_
    refine ⟨.ref p, rfl, true, .inl ⟨_, SqL.of hp2, ?_⟩, iteF ?_⟩
    · cases ls with
      | nil => simp at ll; omega
      | cons a l => rfl
    show _
    refine nx_mk ?_
    refine ⟨.ref p, rfl, p, ls, t, rfl, hp2, hls, hW, h1, h12, fun H3 pp rw' xs s3 hpp hrw hR => ?_⟩
    refine ⟨pp, _, rfl, hpp, rfl, _, _, rfl, _, _, rfl, rfl, ?_⟩
    refine nx_mk ?_
    refine ⟨.str z, rfl, false, ⟨sl_small78 (by omega), zf.symm⟩, iteF ?_⟩
    refine ⟨.ref rw', rfl, rw', _, rfl, .inl (SqL.of hrw), .int (t.length : Int), rfl, _, _, rfl, rfl, _, rfl, ?_⟩
    rw [hR.1, decide_eq_false (show ¬ ((t.length : Int) < (t.length : Int)) by omega)]
    refine iteF ?_
    show _
    refine nx_mk ?_
    refine ⟨.ref rw', rfl, rw', _, rfl, .inl ⟨SqL.of hrw, fun pt hpt => ?_⟩⟩
    have s4 := Sm.new (o := .tup xs) hpt
    exact q _ _ (s2.trans (s3.trans s4)) ⟨pt, xs, rfl, SqT.of upd_same, hR.same s4⟩
end
/-! ### trees with their texts -/
inductive TrX (K : PySem.W.Frag) (H : Hp) : Nat → Nat → V → PyData → Prop where
  | leaf (n i : Nat) (hi : i < 100) : TrX K H n 1 (.int (i : Int)) (.int (i : Int))
  | node {n m : Nat} {p : Addr} {l : Int} {vs : List V} {ds : List PyData} {ms : List Nat} (h : SqT K H p (.int l :: vs)) (hl : LvOk l) (l1 : vs.length = ds.length) (l2 : ms.length = vs.length) (l3 : 2 ≤ vs.length) (hm : m = ms.sum)
      (hk : ∀ (k : Nat) v d m', vs[k]? = some v → ds[k]? = some d → ms[k]? = some m' → TrX K H n m' v d) : TrX K H (n + 1) m (.ref p) (.tuple (.int l :: ds))
theorem TrX.same {K : PySem.W.Frag} {H H' : Hp} {n m : Nat} {v : V} {d : PyData} (h : TrX K H n m v d) (s : Sm H H') : TrX K H' n m v d := by
  induction h with
  | leaf n i hi => exact .leaf n i hi
  | node h hl l1 l2 l3 hm _ ih => exact .node (s.sqT h) hl l1 l2 l3 hm ih
theorem sum_kids78 : ∀ {ds : List PyData} {ms : List Nat}, ms.length = ds.length → (∀ (k : Nat) d m, ds[k]? = some d → ms[k]? = some m → (ctx d).length + 25 ≤ 40 * m) → ((ds.map ctx).map List.length).sum + 25 * ds.length ≤ 40 * ms.sum
  | [], [], _, _ => Nat.le_refl _
  | [], _ :: _, e, _ => by simp at e
  | _ :: _, [], e, _ => by simp at e
  | d :: ds, m :: ms, e, h => by
    have a := h 0 d m rfl rfl
    have b := sum_kids78 (ds := ds) (ms := ms) (by simpa using e) fun k d' m' x y => h (k + 1) d' m' (by simpa using x) (by simpa using y)
    simp only [List.map_cons, List.sum_cons, List.length_cons]
    omega
theorem lenJ78 (c : Nat) : ∀ ps : List (List Nat), (ps.map List.length).sum + ps.length ≤ (TL.joinL [c] ps).length + 1 ∧ (TL.joinL [c] ps).length ≤ (ps.map List.length).sum + ps.length
  | [] => ⟨Nat.zero_le _, Nat.le_refl _⟩
  | [p] => by
    show p.length + 0 + 1 ≤ p.length + 1 ∧ p.length ≤ p.length + 0 + 1
    omega
  | p :: q :: r => by
    have a := lenJ78 c (q :: r)
    show p.length + ((q :: r).map List.length).sum + ((q :: r).length + 1) ≤ (p ++ ([c] ++ TL.joinL [c] (q :: r))).length + 1 ∧ (p ++ ([c] ++ TL.joinL [c] (q :: r))).length ≤ p.length + ((q :: r).map List.length).sum + ((q :: r).length + 1)
    rw [List.length_append, List.length_append]
    have : [c].length = 1 := rfl
    omega
theorem TrX.len {K : PySem.W.Frag} {H : Hp} {n m : Nat} {v : V} {d : PyData} (h : TrX K H n m v d) : (ctx d).length + 25 ≤ 40 * m := by
  induction h with
  | leaf n i hi =>
    rw [ctx_int]
    have := numI_len (i := (i : Int)) (by omega)
    omega
  | node h hl l1 l2 l3 hm hk ih =>
    rename_i n m p l vs ds ms
    have a := sum_kids78 (ds := ds) (ms := ms) (by omega) fun k d m' x y => by
      obtain ⟨u, hu⟩ : ∃ u, vs[k]? = some u := ⟨_, List.getElem?_eq_getElem (by rw [l1]; exact (List.getElem?_eq_some_iff.mp x).1)⟩
      exact ih k u d m' hu x y
    have b := (lenJ78 32 ((.int l :: ds).map ctx)).2
    have c := numI_len (i := l) (by have := hl.2; omega)
    rw [ctx_tup, List.length_cons, List.length_append]
    rw [List.map_cons, List.map_cons, List.sum_cons, List.length_cons, List.length_map, ctx_int] at b
    rw [List.map_cons, ctx_int]
    have e1 : [41].length = 1 := rfl
    rw [hm]
    omega
theorem kidsX78 {K : PySem.W.Frag} {H : Hp} {n : Nat} : ∀ {vs : List V} {Ss : List (List Nat)}, vs.length = Ss.length → (∀ (k : Nat) v P, vs[k]? = some v → Ss[k]? = some P → ∃ d, TrX K H n P.length v d) → ∃ ds : List PyData, vs.length = ds.length ∧ ∀ (k : Nat) v d P, vs[k]? = some v → ds[k]? = some d → Ss[k]? = some P → TrX K H n P.length v d
  | [], [], _, _ => ⟨[], rfl, fun k v d P x => by simp at x⟩
  | [], _ :: _, e, _ => by simp at e
  | _ :: _, [], e, _ => by simp at e
  | v :: vs, P :: Ss, e, h => by
    obtain ⟨d, hd⟩ := h 0 v P rfl rfl
    obtain ⟨ds, a1, a2⟩ := kidsX78 (vs := vs) (Ss := Ss) (by simpa using e) fun k u Q x y => h (k + 1) u Q (by simpa using x) (by simpa using y)
    refine ⟨d :: ds, by simpa using a1, fun k u d' Q x y z => ?_⟩
    match k, x, y, z with
    | 0, x, y, z =>
      cases Option.some.inj x
      cases Option.some.inj y
      cases Option.some.inj z
      exact hd
    | k + 1, x, y, z => exact a2 k u d' Q (by simpa using x) (by simpa using y) (by simpa using z)
theorem trx_of78 {K : PySem.W.Frag} {H : Hp} {t : List (List Int)} {n : Nat} {S : List Nat} {v : V} (h : TrV K H t n S v) : ∃ d, TrX K H n S.length v d := by
  induction h with
  | leaf n i hi => exact ⟨_, .leaf n i hi⟩
  | node h hl _ ok ih =>
    rename_i n S p l vs Ss hk
    obtain ⟨ds, a1, a2⟩ := kidsX78 hl ih
    have two := two_parts ok
    refine ⟨_, .node (ms := Ss.map List.length) h ok.lv a1 (by rw [List.length_map, hl]) (by omega) ok.len fun k u d m' x y z => ?_⟩
    rw [List.getElem?_map] at z
    obtain ⟨P, hP, rfl⟩ := Option.map_eq_some_iff.mp z
    exact a2 k u d P x y hP
section
variable {P : Program} {w : World} {K : PySem.W.Frag} {mg : Str → Option Value} {base : Heap}
def sp_tx78 (K : PySem.W.Frag) (n : Nat) : Sp := fun vs H Q _ => ∃ (v : V) (m : Nat) (d : PyData), vs = [v] ∧ TrX K H n m v d ∧ m ≤ 20 ∧ ∀ (H' : Hp) (s : Str), Sm H H' → TL.tl s = ctx d → Q (.str s) H'
theorem kids_small78 {ms : List Nat} {k m : Nat} (h : ms[k]? = some m) : m ≤ ms.sum := by
  induction ms generalizing k with
  | nil => simp at h
  | cons a ms ih =>
    rw [List.sum_cons]
    cases k with
    | zero => cases Option.some.inj h; omega
    | succ k => have := ih (k := k) (by simpa using h); omega
set_option maxHeartbeats 8000000 in
theorem ok_ftree78 {f : Addr} {fd : FuncData} (D : Df K mg "format_tree" s_format_tree f fd ["tree"]) (B : Bi mg) : ∀ n, FnOk P w K mg base CX0 (n + 1) f fd ["tree"] (sp_tx78 K n)
  | 0 => by
    refine D.F.ok sc_format_tree (fun vs H Q E h => ?_) (fun cdv A outer s H vs Q E hr h => ?_)
    · obtain ⟨v, m, d, rfl, _⟩ := h
      rfl
    · obtain ⟨v, m, d, rfl, hT, hm, q⟩ := h
      have nd := sc_format_tree.nd
      refine ⟨_, pss_cons (ps_if (pt_val (pe_callB call_isi (by rfl) B.isinstance (by decide +kernel) (pa_cons (pv 0) (pa_cons (pe_bltn (by rfl) B.int (by decide +kernel) (v := .ty "int") rfl) pa_nil)))) (pss_one (ps_ret (pe_callTy call_str_int (by rfl) B.str (by decide +kernel) (pa_cons (pv 0) pa_nil)))) pss_nil) pss_never, ?_⟩
      cases hT with
      | leaf n i hi =>
        refine ⟨.int (i : Int), rfl, .int (i : Int), .ty "int", .type "int", _, true, rfl, .ty _, .base (.int _), kit_ty (show kitB "int" "int" = some true by decide +kernel), _, rfl, ?_⟩
        refine iteT ?_
        exact ⟨.int (i : Int), rfl, (i : Int), rfl, log_lv78 (by omega) (by omega), q _ _ (Sm.refl _) (by rw [ctx_int]; exact tl_int (by omega))⟩
  | n + 1 => by
    have G := ok_ftree78 D B n
    refine D.F.ok sc_format_tree (fun vs H Q E h => ?_) (fun cdv A outer s H vs Q E hr h => ?_)
    · obtain ⟨v, m, d, rfl, _⟩ := h
      rfl
    · obtain ⟨v, m, d, rfl, hT, hm, q⟩ := h
      have nd := sc_format_tree.nd
      refine ⟨_, pss_cons (ps_if (pt_val (pe_callB call_isi (by rfl) B.isinstance (by decide +kernel) (pa_cons (pv 0) (pa_cons (pe_bltn (by rfl) B.int (by decide +kernel) (v := .ty "int") rfl) pa_nil)))) (pss_one (ps_ret (pe_callTy call_str_int (by rfl) B.str (by decide +kernel) (pa_cons (pv 0) pa_nil)))) pss_nil)
        (pss_cons (ps_asg (pv 0) (pg_tupS rfl (pgs_cons (pg_name (i := 1) nd rfl (.inl rfl)) (pgs_star (pg_name (i := 2) nd rfl (.inl rfl)) pgs_nil))))
        (pss_cons (ps_setLc (i := 3) (own := [("part", 4)]) (g := gName 4) (tt := tYes) (te := tCall (sp_tx78 K n) [] E0 (tCons (tVar 4) tNil)) rfl nd rfl rfl (sw_true rfl rfl rfl (by decide +kernel)) (pi_list (pv 2)) (blkOk_by (N := N_format_tree) (sc := defScope s_format_tree) (by decide +kernel))
            (fun _ _ _ _ _ => pg_name (i := 4) nd rfl (.inl rfl)) (fun _ _ _ _ _ => pts_nil) (fun _ _ _ _ _ => (pe_cl D G hr (pa_cons (pv 4) pa_nil))))
        (pss_one (ps_ret (pe_op op_add_str (pe_op op_add_str pe_str (pe_join pe_str (pe_lst (pa_cons (pe_callTy call_str_int (by rfl) B.str (by decide +kernel) (pa_cons (pv 1) pa_nil)) (StX.pa_star (pv 3) pa_nil))))) pe_str))))), ?_⟩
      have hlen := hT.len
      cases hT with
      | leaf n i hi =>
        refine ⟨.int (i : Int), rfl, .int (i : Int), .ty "int", .type "int", _, true, rfl, .ty _, .base (.int _), kit_ty (show kitB "int" "int" = some true by decide +kernel), _, rfl, ?_⟩
        refine iteT ?_
        exact ⟨.int (i : Int), rfl, (i : Int), rfl, log_lv78 (by omega) (by omega), q _ _ (Sm.refl _) (by rw [ctx_int]; exact tl_int (by omega))⟩
      | @node _ _ p l vs ds ms h hl l1 l2 l3 hmm hk =>
        refine ⟨.ref p, rfl, .ref p, .ty "int", .type "tuple", _, false, rfl, .ty _, ty_tup h, kit_ty (show kitB "tuple" "int" = some false by decide +kernel), _, rfl, ?_⟩
        refine iteF ?_
        show _
        refine nx_mk ?_
        have mk : ∀ (k : Nat) m', ms[k]? = some m' → m' ≤ 20 := fun k m' e => by have := kids_small78 e; omega
        have vm : vs.length ≤ 40 := by
          have a := sum_kids78 (ds := ds) (ms := ms) (by omega) fun k d m' x y => by
            obtain ⟨u, hu⟩ : ∃ u, vs[k]? = some u := ⟨_, List.getElem?_eq_getElem (by rw [l1]; exact (List.getElem?_eq_some_iff.mp x).1)⟩
            exact (hk k u d m' hu x y).len
          omega
        refine ⟨.ref p, rfl, p, _, rfl, h, by show 1 < 2; decide, by show 2 ≤ vs.length + 1 + 1; omega, by show vs.length + 1 ≤ 16384; omega, fun q0 hq0 => ?_⟩
        have e1 : (((V.int l :: vs).drop 1).take ((V.int l :: vs).length + 1 - 2)) = vs := by
          show vs.take (vs.length + 1 + 1 - 2) = vs
          rw [show vs.length + 1 + 1 - 2 = vs.length by omega, List.take_length]
        have e2 : ((V.int l :: vs).take 1 ++ [V.ref q0] ++ ((V.int l :: vs).drop 1).drop ((V.int l :: vs).length + 1 - 2)) = [V.int l, .ref q0] := by
          show [V.int l, .ref q0] ++ vs.drop (vs.length + 1 + 1 - 2) = _
          rw [show vs.length + 1 + 1 - 2 = vs.length by omega, List.drop_length]
          rfl
        show gCons (gName 1) (gCons (gName 2) gNil) ((V.int l :: vs).take 1 ++ [V.ref q0] ++ ((V.int l :: vs).drop 1).drop ((V.int l :: vs).length + 1 - 2)) _ (upd H q0 (.lst (((V.int l :: vs).drop 1).take ((V.int l :: vs).length + 1 - 2)))) _
        rw [e1, e2]
        have s1 : Sm H (upd H q0 (.lst vs)) := Sm.new hq0
        have hq1 : (upd H q0 (.lst vs)) q0 = some (.lst vs) := upd_same
        generalize upd H q0 (.lst vs) = H1 at s1 hq1
        refine ⟨.int l, [.ref q0], rfl, .ref q0, [], rfl, rfl, ?_⟩
        refine nx_mk ?_
        refine ⟨.ref q0, rfl, q0, rfl, ⟨_, SqL.of hq1⟩, fun D hD => lc_list (xs := vs) (fun i Hy => ∃ ys : List Str, Hy D = some (.lst (ys.map V.str)) ∧ ys.map TL.tl = (ds.take i).map ctx ∧ Sm H1 Hy) ⟨[], upd_same, by simp, Sm.new hD⟩ (fun i Hy _ hQ => by obtain ⟨_, _, _, sy⟩ := hQ; exact SqL.of (sy _ _ hq1)) (fun i v Hy hv hQ => ?_) (fun Hy hQ => ?_)⟩
        · obtain ⟨ys, g1, g2, sy⟩ := hQ
          have hi : i < vs.length := (List.getElem?_eq_some_iff.mp hv).1
          obtain ⟨d, hd⟩ : ∃ d, ds[i]? = some d := ⟨_, List.getElem?_eq_getElem (by omega)⟩
          obtain ⟨m', hm'⟩ : ∃ m', ms[i]? = some m' := ⟨_, List.getElem?_eq_getElem (by omega)⟩
          have yl : ys.length ≤ 40 := by
            have := congrArg List.length g2
            rw [List.length_map, List.length_map, List.length_take] at this
            omega
          refine ⟨rfl, v, rfl, v, m', d, rfl, (hk i v d m' hv hd hm').same (s1.trans sy), mk i m' hm', fun H2 s s2 hs => ?_⟩
          refine ⟨_, s2 _ _ g1, by rw [List.length_map]; exact small1000 (by omega), ys ++ [s], by rw [upd_same, List.map_append]; rfl, ?_, fun cc o e => by rw [upd_ne (ne_of_none e hD)]; exact (sy.trans s2) cc o e⟩
          rw [List.map_append, g2, List.take_add_one, hd, List.map_append]
          show _ ++ [TL.tl s] = _ ++ [ctx d]
          rw [hs]
        obtain ⟨ys, g1, g2, sy⟩ := hQ
        rw [l1, List.take_length] at g2
        refine nx_mk ?_
        have yl : ys.length = ds.length := by
          have := congrArg List.length g2
          rw [List.length_map, List.length_map] at this
          exact this
        have nl : TL.tl (toString l : Str) = numI l := tl_int (by have := hl.1; omega)
        have v1 : TL.tl (Str.ofString " ") = [32] := by decide +kernel
        have v2 : TL.tl (Str.ofString "(") = [40] := by decide +kernel
        have v3 : TL.tl (Str.ofString ")") = [41] := by decide +kernel
        have w1 : (Str.ofString " ").length = 1 := by decide +kernel
        have w2 : (Str.ofString "(").length ≤ 1 := by decide +kernel
        have w3 : (Str.ofString ")").length ≤ 1 := by decide +kernel
        have eJ : ((toString l : Str) :: ys).map TL.tl = (PyData.int l :: ds).map ctx := by
          rw [List.map_cons, List.map_cons, nl, g2, ctx_int]
        have tot : (((toString l : Str) :: ys).map (·.length)).sum + ((toString l : Str) :: ys).length * 1 ≤ 1000 := by
          have a := (lenJ78 32 ((PyData.int l :: ds).map ctx)).1
          rw [ctx_tup, List.length_cons, List.length_append] at hlen
          have b : ((toString l : Str) :: ys).map (·.length) = ((PyData.int l :: ds).map ctx).map List.length := by
            rw [← eJ, List.map_map]
            exact List.map_congr_left fun x _ => TL.len_tl x
          have c : ((toString l : Str) :: ys).length = ((PyData.int l :: ds).map ctx).length := by
            rw [List.length_map, List.length_cons, List.length_cons, yl]
          rw [b, c]
          omega
        have s2 := s1.trans sy
        refine ⟨⟨_, rfl⟩, .int l, rfl, l, rfl, log_lv78 (by have := hl.1; omega) hl.2, .ref D, rfl, D, _, rfl, .inr (SqL.of g1), ?_⟩
        refine ⟨by rw [List.length_cons, List.length_append, List.length_map]; exact sl_small78 (by show ys.length + 0 + 1 ≤ _; omega), fun lo hlo => ?_⟩
        have s3 := s2.trans (Sm.new (o := .lst (V.str (toString l : Str) :: (ys.map V.str ++ []))) hlo)
        refine ⟨_, lo, (toString l : Str) :: ys, rfl, rfl, .inl (SqL.of (by rw [upd_same, List.append_nil]; rfl)), ?_, ?_⟩
        · show _ + _ * (Str.ofString " ").length ≤ _
          rw [w1]
          exact Nat.le_trans tot (by decide)
        have hJ : TL.tl (Txt.join (Str.ofString " ") ((toString l : Str) :: ys)) = TL.joinL [32] ((PyData.int l :: ds).map ctx) := by
          rw [TL.join_eq, TL.tl_join, v1, eJ]
        have jl : (Txt.join (Str.ofString " ") ((toString l : Str) :: ys)).length ≤ 1000 := by
          rw [TL.len_tl, hJ]
          rw [ctx_tup, List.length_cons, List.length_append] at hlen
          omega
        refine ⟨_, _, rfl, rfl, sl_small78 (by omega), _, _, rfl, rfl, sl_small78 (Nat.le_trans (Nat.add_le_add (sapp78 w2 jl) w3) (by decide)), ?_⟩
        refine q _ _ s3 ?_
        rw [TL.tl_append, TL.tl_append, hJ, v2, v3, ctx_tup]
        rfl
end
section
variable {P : Program} {w : World} {K : PySem.W.Frag} {mg : Str → Option Value} {base : Heap}
/-! ### the law: the text of a tree -/
set_option maxHeartbeats 8000000 in
theorem ok_ltree78 {f : Addr} {fd : FuncData} (D : Df K mg "_law_tree_text" s_L_tree_text f fd ["_law_tree"]) (B : Bi mg) : ∀ n, FnOk P w K mg base CX0 (n + 1) f fd ["_law_tree"] (sp_tx78 K n)
  | 0 => by
    refine D.F.ok sc_L_tree_text (fun vs H Q E h => ?_) (fun cdv A outer s H vs Q E hr h => ?_)
    · obtain ⟨v, m, d, rfl, _⟩ := h
      rfl
    · obtain ⟨v, m, d, rfl, hT, hm, q⟩ := h
      have nd := sc_L_tree_text.nd
      refine ⟨_, pss_cons (ps_if (pt_val (pe_callB call_isi (by rfl) B.isinstance (by decide +kernel) (pa_cons (pv 0) (pa_cons (pe_bltn (by rfl) B.int (by decide +kernel) (v := .ty "int") rfl) pa_nil)))) (pss_one (ps_ret (pe_callTy call_str_int (by rfl) B.str (by decide +kernel) (pa_cons (pv 0) pa_nil)))) pss_nil) pss_never, ?_⟩
      cases hT with
      | leaf n i hi =>
        refine ⟨.int (i : Int), rfl, .int (i : Int), .ty "int", .type "int", _, true, rfl, .ty _, .base (.int _), kit_ty (show kitB "int" "int" = some true by decide +kernel), _, rfl, ?_⟩
        refine iteT ?_
        exact ⟨.int (i : Int), rfl, (i : Int), rfl, log_lv78 (by omega) (by omega), q _ _ (Sm.refl _) (by rw [ctx_int]; exact tl_int (by omega))⟩
  | n + 1 => by
    have G := ok_ltree78 D B n
    refine D.F.ok sc_L_tree_text (fun vs H Q E h => ?_) (fun cdv A outer s H vs Q E hr h => ?_)
    · obtain ⟨v, m, d, rfl, _⟩ := h
      rfl
    · obtain ⟨v, m, d, rfl, hT, hm, q⟩ := h
      have nd := sc_L_tree_text.nd
      refine ⟨_, pss_cons (ps_if (pt_val (pe_callB call_isi (by rfl) B.isinstance (by decide +kernel) (pa_cons (pv 0) (pa_cons (pe_bltn (by rfl) B.int (by decide +kernel) (v := .ty "int") rfl) pa_nil)))) (pss_one (ps_ret (pe_callTy call_str_int (by rfl) B.str (by decide +kernel) (pa_cons (pv 0) pa_nil)))) pss_nil)
        (pss_one (ps_ret (pe_op op_add_str (pe_op op_add_str pe_str (pe_join pe_str (pe_op op_cat (pe_lst (pa_cons (pe_callTy call_str_int (by rfl) B.str (by decide +kernel) (pa_cons (pe_ix ix_tup (pv 0) pe_int (fun _ _ => rfl)) pa_nil)) pa_nil))
          (pe_lc (own := [("_law_part", 1)]) (g := gName 1) (tt := tYes) (te := tCall (sp_tx78 K n) [] E0 (tCons (tVar 1) tNil)) rfl nd (pi_tup (pe_slice sl_tupW (pv 0) (po_some pe_int) po_none)) (blkOk_by (N := N_L_tree_text) (sc := defScope s_L_tree_text) (by decide +kernel))
            (fun _ _ _ _ _ => pg_name (i := 1) nd rfl (.inl rfl)) (fun _ _ _ _ _ => pts_nil) (fun _ _ _ _ _ => (pe_cl D G hr (pa_cons (pv 1) pa_nil))))))) pe_str))), ?_⟩
      have hlen := hT.len
      cases hT with
      | leaf n i hi =>
        refine ⟨.int (i : Int), rfl, .int (i : Int), .ty "int", .type "int", _, true, rfl, .ty _, .base (.int _), kit_ty (show kitB "int" "int" = some true by decide +kernel), _, rfl, ?_⟩
        refine iteT ?_
        exact ⟨.int (i : Int), rfl, (i : Int), rfl, log_lv78 (by omega) (by omega), q _ _ (Sm.refl _) (by rw [ctx_int]; exact tl_int (by omega))⟩
      | @node _ _ p l vs ds ms h hl l1 l2 l3 hmm hk =>
        refine ⟨.ref p, rfl, .ref p, .ty "int", .type "tuple", _, false, rfl, .ty _, ty_tup h, kit_ty (show kitB "tuple" "int" = some false by decide +kernel), _, rfl, ?_⟩
        refine iteF ?_
        show _
        have mk : ∀ (k : Nat) m', ms[k]? = some m' → m' ≤ 20 := fun k m' e => by have := kids_small78 e; omega
        have vm : vs.length ≤ 40 := by
          have a := sum_kids78 (ds := ds) (ms := ms) (by omega) fun k d m' x y => by
            obtain ⟨u, hu⟩ : ∃ u, vs[k]? = some u := ⟨_, List.getElem?_eq_getElem (by rw [l1]; exact (List.getElem?_eq_some_iff.mp x).1)⟩
            exact (hk k u d m' hu x y).len
          omega
        refine ⟨⟨_, rfl⟩, .ref p, rfl, p, _, 0, _, rfl, rfl, h, atI_nat (j := 0) rfl, l, rfl, log_lv78 (by have := hl.1; omega) hl.2, small1000 (Nat.le_of_ble_eq_true rfl), fun l1' hl1 => ?_⟩
        have s1 : Sm H (upd H l1' (.lst [.str (toString l : Str)])) := Sm.new hl1
        have hl11 : (upd H l1' (.lst [.str (toString l : Str)])) l1' = some (.lst [.str (toString l : Str)]) := upd_same
        generalize upd H l1' (.lst [.str (toString l : Str)]) = H1 at s1 hl11
        refine ⟨.ref p, rfl, _, rfl, p, _, rfl, s1.sqT h, fun p2 H2 s2 hp2 => ?_⟩
        rw [show (1 : Int) = ((1 : Nat) : Int) from rfl, cut_from] at hp2
        have hp2 : SqT K H2 p2 vs := hp2
        have hl12 := s2 _ _ hl11
        have s02 := s1.trans s2
        refine ⟨p2, rfl, ⟨_, hp2⟩, fun D hD => lc_tup (xs := vs) (fun i Hy => ∃ ys : List Str, Hy D = some (.lst (ys.map V.str)) ∧ ys.map TL.tl = (ds.take i).map ctx ∧ Sm H2 Hy) ⟨[], upd_same, by simp, Sm.new hD⟩ (fun i Hy _ hQ => by obtain ⟨_, _, _, sy⟩ := hQ; exact sy.sqT hp2) (fun i v Hy hv hQ => ?_) (fun Hy hQ => ?_)⟩
        · obtain ⟨ys, g1, g2, sy⟩ := hQ
          have hi : i < vs.length := (List.getElem?_eq_some_iff.mp hv).1
          obtain ⟨d, hd⟩ : ∃ d, ds[i]? = some d := ⟨_, List.getElem?_eq_getElem (by omega)⟩
          obtain ⟨m', hm'⟩ : ∃ m', ms[i]? = some m' := ⟨_, List.getElem?_eq_getElem (by omega)⟩
          have yl : ys.length ≤ 40 := by
            have := congrArg List.length g2
            rw [List.length_map, List.length_map, List.length_take] at this
            omega
          refine ⟨rfl, v, rfl, v, m', d, rfl, (hk i v d m' hv hd hm').same (s02.trans sy), mk i m' hm', fun H3 s s3 hs => ?_⟩
          refine ⟨_, s3 _ _ g1, by rw [List.length_map]; exact small1000 (by omega), ys ++ [s], by rw [upd_same, List.map_append]; rfl, ?_, fun cc o e => by rw [upd_ne (ne_of_none e hD)]; exact (sy.trans s3) cc o e⟩
          rw [List.map_append, g2, List.take_add_one, hd, List.map_append]
          show _ ++ [TL.tl s] = _ ++ [ctx d]
          rw [hs]
        obtain ⟨ys, g1, g2, sy⟩ := hQ
        rw [l1, List.take_length] at g2
        have yl : ys.length = ds.length := by
          have := congrArg List.length g2
          rw [List.length_map, List.length_map] at this
          exact this
        have nl : TL.tl (toString l : Str) = numI l := tl_int (by have := hl.1; omega)
        have v1 : TL.tl (Str.ofString " ") = [32] := by decide +kernel
        have v2 : TL.tl (Str.ofString "(") = [40] := by decide +kernel
        have v3 : TL.tl (Str.ofString ")") = [41] := by decide +kernel
        have w1 : (Str.ofString " ").length = 1 := by decide +kernel
        have w2 : (Str.ofString "(").length ≤ 1 := by decide +kernel
        have w3 : (Str.ofString ")").length ≤ 1 := by decide +kernel
        have eJ : ((toString l : Str) :: ys).map TL.tl = (PyData.int l :: ds).map ctx := by
          rw [List.map_cons, List.map_cons, nl, g2, ctx_int]
        have tot : (((toString l : Str) :: ys).map (·.length)).sum + ((toString l : Str) :: ys).length * 1 ≤ 1000 := by
          have a := (lenJ78 32 ((PyData.int l :: ds).map ctx)).1
          rw [ctx_tup, List.length_cons, List.length_append] at hlen
          have b : ((toString l : Str) :: ys).map (·.length) = ((PyData.int l :: ds).map ctx).map List.length := by
            rw [← eJ, List.map_map]
            exact List.map_congr_left fun x _ => TL.len_tl x
          have c : ((toString l : Str) :: ys).length = ((PyData.int l :: ds).map ctx).length := by
            rw [List.length_map, List.length_cons, List.length_cons, yl]
          rw [b, c]
          omega
        have s2' := s02.trans sy
        refine ⟨l1', D, [.str (toString l : Str)], ys.map V.str, rfl, rfl, sy _ _ hl12, g1, sl_small78 (by rw [List.length_map]; show 1 + ys.length ≤ _; omega), fun lo hlo => ?_⟩
        have s3 := s2'.trans (Sm.new (o := .lst ([V.str (toString l : Str)] ++ ys.map V.str)) hlo)
        refine ⟨_, lo, (toString l : Str) :: ys, rfl, rfl, .inl (SqL.of (by rw [upd_same]; rfl)), ?_, ?_⟩
        · show _ + _ * (Str.ofString " ").length ≤ _
          rw [w1]
          exact Nat.le_trans tot (by decide)
        have hJ : TL.tl (Txt.join (Str.ofString " ") ((toString l : Str) :: ys)) = TL.joinL [32] ((PyData.int l :: ds).map ctx) := by
          rw [TL.join_eq, TL.tl_join, v1, eJ]
        have jl : (Txt.join (Str.ofString " ") ((toString l : Str) :: ys)).length ≤ 1000 := by
          rw [TL.len_tl, hJ]
          rw [ctx_tup, List.length_cons, List.length_append] at hlen
          omega
        refine ⟨_, _, rfl, rfl, sl_small78 (by omega), _, _, rfl, rfl, sl_small78 (Nat.le_trans (Nat.add_le_add (sapp78 w2 jl) w3) (by decide)), ?_⟩
        refine q _ _ s3 ?_
        rw [TL.tl_append, TL.tl_append, hJ, v2, v3, ctx_tup]
        rfl
end
section
variable {P : Program} {w : World} {K : PySem.W.Frag} {mg : Str → Option Value} {base : Heap}
/-! ### a drawn order -/
abbrev nI (os : List Nat) : List V := os.map fun i : Nat => V.int (i : Int)
end
theorem rgN (n : Nat) : rgV 0 (n : Int) = nI (List.range n) := by
  unfold rgV nI
  rw [show ((n : Int) - 0).toNat = n by omega]
  refine List.map_congr_left fun i _ => ?_
  rw [Int.zero_add]
theorem nIflat (os : List Nat) : (nI os).all flatV = true := by
  unfold nI
  rw [List.all_map]
  exact List.all_eq_true.mpr fun _ _ => rfl
theorem nIat {os : List Nat} {m : Nat} {v : V} (h : (nI os)[m]? = some v) : ∃ z : Nat, os[m]? = some z ∧ v = .int (z : Int) := by
  unfold nI at h
  rw [List.getElem?_map] at h
  obtain ⟨z, hz, e⟩ := Option.map_eq_some_iff.mp h
  exact ⟨z, hz, e.symm⟩
theorem nIdp {K : PySem.W.Frag} {H : Hp} : ∀ os : List Nat, DpAll K H (nI os) (os.map fun i : Nat => PyData.int (i : Int))
  | [] => .nil
  | i :: os => .cons (.int _) (nIdp os)
theorem nIshaped (os : List Nat) : SeqAt.shaped (.list (os.map fun i : Nat => PyData.int (i : Int))) = true := by
  have e : (os.map fun i : Nat => PyData.int (i : Int)) = (os.map fun i : Nat => (i : Int)).map PyData.int := by
    rw [List.map_map]
    rfl
  rw [e]
  exact shaped_list _
theorem parts_le (L : List (List Nat)) : (∀ P ∈ L, 0 < P.length) → L.length ≤ (L.map List.length).sum := by
  induction L with
  | nil => intro _; exact Nat.le_refl _
  | cons P L ih =>
    intro h
    have h1 := h P List.mem_cons_self
    have h2 := ih fun Q hQ => h Q (List.mem_cons_of_mem _ hQ)
    rw [List.map_cons, List.sum_cons, List.length_cons]
    omega
section
variable {P : Program} {w : World} {K : PySem.W.Frag} {mg : Str → Option Value} {base : Heap}
/-! ### the law: the tree of a nested table -/
def sp_parts78 (K : PySem.W.Frag) (n : Nat) : Sp := fun vs H Q _ => ∃ (tv : V) (t : List (List Int)) (o : Addr) (S : List Nat), vs = [tv, .ref o] ∧ TT K H tv t ∧ WT t ∧ Ultra t ∧ t.length ≤ 20 ∧ H o = some (.lst (nI S)) ∧ S.Pairwise (· < ·) ∧ 0 < S.length ∧ S.length ≤ n + 1 ∧ (∀ x ∈ S, x < t.length) ∧
  ∀ (H' : Hp) (v : V), Sm H H' → TrV K H' t n S v → Q v H'
set_option maxHeartbeats 8000000 in
theorem ok_parts78 {f fL : Addr} {fd fdL : FuncData} (D : Df K mg "_law_parts" s_L_parts f fd ["_law_table_here", "_law_items"]) (DL : Df K mg "_law_level" s_L_level fL fdL ["_law_table_here", "_law_one_here", "_law_other"]) (B : Bi mg) : ∀ n, FnOk P w K mg base CX0 (n + 2) f fd ["_law_table_here", "_law_items"] (sp_parts78 K n)
  | n => by
    have G : ∀ m, n = m + 1 → FnOk P w K mg base CX0 (n + 1) f fd ["_law_table_here", "_law_items"] (sp_parts78 K m) := fun m e => by
      subst e
      exact ok_parts78 D DL B m
    have GL : FnOk P w K mg base CX0 (n + 1) fL fdL ["_law_table_here", "_law_one_here", "_law_other"] (sp_level K) := ok_level DL.F B
    refine D.F.ok sc_L_parts (fun vs H Q E h => ?_) (fun cdv A outer s H vs Q E hr h => ?_)
    · obtain ⟨tv, t, o, S, rfl, _⟩ := h
      rfl
    · obtain ⟨tv, t, o, S, rfl, hT, hW, hU, h20, ho, hasc, h0, hn, hS, q⟩ := h
      have hnd := asc_nd hasc
      have nd := sc_L_parts.nd
      by_cases h1 : S.length = 1
      · refine ⟨_, pss_cons (ps_if (pt_cmpR op_eq (pe_len B (pv 1)) pe_int (nomark _)) (pss_one (ps_ret (pe_ix ix_list (pv 1) pe_int (fun _ _ => rfl)))) pss_nil) pss_never, ?_⟩
        obtain ⟨x, rfl⟩ : ∃ x, S = [x] := List.length_eq_one_iff.mp h1
        refine ⟨.ref o, rfl, o, _, rfl, .inl (SqL.of ho), rfl, _, rfl, ?_⟩
        refine ite2 (fun e => ?_) (fun e => absurd (decide_eq_true rfl) e)
        refine ⟨_, rfl, o, _, _, _, rfl, rfl, SqL.of ho, atI_nat (j := 0) rfl, q _ _ (Sm.refl _) (.leaf _ x ?_)⟩
        have := hS x List.mem_cons_self
        omega
      · obtain ⟨m, rfl⟩ : ∃ m, n = m + 1 := ⟨n - 1, by omega⟩
        have GT := G m rfl
        refine ⟨_, pss_cons (ps_if (pt_cmpR op_eq (pe_len B (pv 1)) pe_int (nomark _)) pss_never pss_nil)
          (pss_cons (ps_asg (pe_tup (pa_cons (pe_ix ix_list (pv 1) pe_int (fun _ _ => rfl)) (pa_cons (pe_callTy call_list_of (by rfl) B.list (by decide +kernel) (pa_cons (pv 1) pa_nil)) (pa_cons (pe_lst pa_nil) pa_nil)))) (pg_tup rfl (pgs_cons (pg_name (i := 2) nd rfl (.inr rfl)) (pgs_cons (pg_name (i := 3) nd rfl (.inr rfl)) (pgs_cons (pg_name (i := 4) nd rfl (.inl rfl)) pgs_nil)))))
          (pss_cons (ps_set (i := 5) nd rfl (.inr rfl) (pe_callB (cr_max rfl) (by rfl) B.max (by decide +kernel) (pa_cons
            (pe_lc (own := [("_law_item", 7)]) (g := gName 7) (tt := tYes) (te := tCall (sp_level K) [] E0 (tCons (tVar 0) (tCons (tVar 2) (tCons (tVar 7) tNil)))) rfl nd (pi_list (pv 1)) (blkOk_by (N := N_L_parts) (sc := defScope s_L_parts) (by decide +kernel))
              (fun _ _ _ _ _ => pg_name (i := 7) nd rfl (.inl rfl)) (fun _ _ _ _ _ => pts_nil) (fun _ _ _ _ _ => pe_cl DL GL hr (pa_cons (pv 0) (pa_cons (pv 2) (pa_cons (pv 7) pa_nil))))) pa_nil)))
          (pss_cons (ps_while PassesOwn.never (pt_cmpR (op_neD hr.units) (pv 3) (pe_lst pa_nil) (nomark _))
            (pss_cons (ps_set (i := 6) nd rfl (.inr rfl) (pe_lc (own := [("_law_item", 7)]) (g := gName 7) (tt := tTest (tOp (rI0 fun i j => .bl (decide (i < j))) (tCall (sp_level K) [] E0 (tCons (tVar 0) (tCons (tOp (rIxL K) (tVar 3) (tC (.int 0))) (tCons (tVar 7) tNil)))) (tVar 5))) rfl nd (pi_list (pv 3)) (blkOk_by (N := N_L_parts) (sc := defScope s_L_parts) (by decide +kernel))
              (fun _ _ _ _ _ => pg_name (i := 7) nd rfl (.inl rfl)) (fun _ _ _ _ _ => pts_one (pt_cmpR op_lt (pe_cl DL GL hr (pa_cons (pv 0) (pa_cons (pe_ix (ixK K rfl) (pv 3) pe_int (fun _ _ => rfl)) (pa_cons (pv 7) pa_nil)))) (pv 5) (nomark _))) (fun _ _ _ _ _ => pv 7)))
            (pss_cons (ps_expr (pe_bm PySem.F.plainAttrs_list PySem.F.slot_list_append PySem.F.type_list_append mt_append (pv 4) (pa_cons (pe_cl D GT hr (pa_cons (pv 0) (pa_cons (pv 6) pa_nil))) pa_nil)))
            (pss_one (ps_set (i := 3) nd rfl (.inr rfl) (pe_lc (own := [("_law_item", 7)]) (g := gName 7) (tt := tTest (tOp (rIn K true) (tVar 7) (tVar 6))) rfl nd (pi_list (pv 3)) (blkOk_by (N := N_L_parts) (sc := defScope s_L_parts) (by decide +kernel))
              (fun _ _ _ _ _ => pg_name (i := 7) nd rfl (.inl rfl)) (fun _ _ _ _ _ => pts_one (pt_cmpR op_notIn_seq (pv 7) (pv 6) (by rfl))) (fun _ _ _ _ _ => pv 7)))))))
          (pss_one (ps_ret (pe_op op_catW (pe_tup (pa_cons (pv 5) pa_nil)) (pe_callTy call_tuple_of (by rfl) B.tuple (by decide +kernel) (pa_cons (pv 4) pa_nil)))))))), ?_⟩
        refine ⟨.ref o, rfl, o, _, rfl, .inl (SqL.of ho), rfl, _, rfl, ?_⟩
        refine ite2 (fun e => ?_) (fun e => ?_)
        · have e1 : V.int ((nI S).length : Int) = V.int 1 := of_decide_eq_true e
          rw [List.length_map] at e1
          have := V.int.inj e1
          omega
        have hSl : (nI S).length = S.length := List.length_map ..
        have hS20 := List.Nodup.length_le_of_subset (l₁ := S) (l₂ := List.range t.length) hnd fun x hx => List.mem_range.mpr (hS x hx)
        rw [List.length_range] at hS20
        obtain ⟨tp, rs, rfl, htp, hR⟩ := id hT
        obtain ⟨a0, S0, eS⟩ : ∃ a0 S0, S = a0 :: S0 := by
          cases S with
          | nil => simp at h0
          | cons a0 S0 => exact ⟨a0, S0, rfl⟩
        have ha0 : a0 ∈ S := by rw [eS]; exact List.mem_cons_self
        have hat0 : atI (nI S) 0 = some (.int (a0 : Int)) := by rw [eS]; exact atI_nat (j := 0) rfl
        show _
        refine nx_mk ?_
        refine ⟨.ref o, rfl, o, _, _, _, rfl, rfl, SqL.of ho, hat0, .ref o, rfl, o, _, rfl, .inl (SqL.of ho), fun l0 hl0n => ?_⟩
        have sA : Sm H (upd H l0 (.lst (nI S))) := Sm.new hl0n
        have hl0A : (upd H l0 (.lst (nI S))) l0 = some (.lst (nI S)) := upd_same
        generalize upd H l0 (.lst (nI S)) = HA at sA hl0A
        refine ⟨Nat.zero_le _, fun fo hfo => ?_⟩
        have nlf : l0 ≠ fo := ne_of_none hl0A hfo
        have hfoH : H fo = none := Sm.free sA hfo
        have sB : Sm HA (upd HA fo (.lst [])) := Sm.new hfo
        have hfoB : (upd HA fo (.lst [])) fo = some (.lst []) := upd_same
        have sAB := sA.trans sB
        have hl0B := sB _ _ hl0A
        generalize upd HA fo (.lst []) = HB at sB hfoB sAB hl0B
        refine ⟨(by show 3 ≤ sizeLine; decide), fun p2 hp2 => ?_⟩
        have sC : Sm HB (upd HB p2 (.tup [.int (a0 : Int), .ref l0, .ref fo])) := Sm.new hp2
        refine ⟨p2, _, rfl, SqT.of upd_same, rfl, _, _, rfl, _, _, rfl, _, _, rfl, rfl, ?_⟩
        have g0 := sAB.trans sC
        have hl0C := sC _ _ hl0B
        have hfoC := sC _ _ hfoB
        generalize upd HB p2 (.tup [.int (a0 : Int), .ref l0, .ref fo]) = HC at sC g0 hl0C hfoC
        refine nx_mk ?_
        refine ⟨.ref o, rfl, o, rfl, ⟨_, SqL.of (g0 _ _ ho)⟩, fun D hDn => lc_list (xs := nI S) (fun k Hy => Hy D = some (.lst (((S.take k).map (lev t a0)).map V.int)) ∧ Sm HC Hy) ⟨upd_same, Sm.new hDn⟩ (fun k Hy _ hP => SqL.of (hP.2 _ _ (g0 _ _ ho))) (fun k v Hy hv hP => ?_) (fun Hy hP => ?_)⟩
        · obtain ⟨g1, g2'⟩ := hP
          have g2 := g0.trans g2'
          obtain ⟨z, hz, rfl⟩ := nIat hv
          refine ⟨rfl, .ref tp, rfl, .int (a0 : Int), rfl, .int (z : Int), rfl, tp, rs, t, a0, z, rfl, .inr (g2.sqT htp), hR.same g2, hW, hS a0 ha0, hS z (List.mem_of_getElem? hz), ?_⟩
          refine ⟨_, g1, ?_, ?_, ?_⟩
          · rw [List.length_map, List.length_map, List.length_take]
            exact small1000 (by omega)
          · rw [upd_same, List.take_add_one, hz, List.map_append, List.map_append]
            rfl
          · intro b u eb
            rw [upd_ne (ne_of_none eb hDn)]
            exact g2' b u eb
        obtain ⟨g1, g2'⟩ := hP
        have g2 := g0.trans g2'
        have hl0Y := g2' _ _ hl0C
        have hfoY := g2' _ _ hfoC
        rw [hSl, List.take_length] at g1
        refine ⟨D, S.map (lev t a0), rfl, SqL.of g1, by rw [List.length_map]; exact h0, fun l hl hmax => ?_⟩
        obtain ⟨y, hyS, ely⟩ := List.mem_map.mp hl
        have hle : ∀ x ∈ S, lev t a0 x ≤ l := fun x hx => hmax _ (List.mem_map.mpr ⟨x, hx, rfl⟩)
        have hall := top_all hU hS ha0 hle
        have hl0 : 0 < l := by
          obtain ⟨b0, hb0, hne⟩ : ∃ b0 ∈ S, b0 ≠ a0 := by
            cases S0 with
            | nil => rw [eS] at h1; exact absurd rfl h1
            | cons b0 S1 =>
              refine ⟨b0, by rw [eS]; simp, fun z => ?_⟩
              rw [eS, z] at hnd
              simp at hnd
          have := (hW.lev (hS a0 ha0) (hS b0 hb0) fun z => hne z.symm).1
          have := hle b0 hb0
          omega
        have hlv : LvOk l := by
          rw [← ely]
          refine hW.lev (hS a0 ha0) (hS y hyS) fun z => ?_
          rw [← z, lev_self] at ely
          omega
        refine nx_mk ?_
        refine ⟨fun c σ Hx => ∃ (x6 : Option V) (vs : List V) (Ss : List (List Nat)) (lo : Addr) (L : List Nat), σ = [some (.ref tp), some (.ref o), some (.int (a0 : Int)), some (.ref lo), some (.ref fo), some (.int l), x6, none] ∧ Hx fo = some (.lst vs) ∧ vs.length = Ss.length ∧ (∀ (k : Nat) v P, vs[k]? = some v → Ss[k]? = some P → TrV K Hx t m P v) ∧ Split t S l Ss L ∧ Hx lo = some (.lst (nI L)) ∧ lo ≠ fo ∧ c = L.length ∧ Sm H Hx,
          ⟨S.length, none, [], [], l0, S, rfl, hfoY, rfl, fun k v P e => by simp at e, Split.start hasc, hl0Y, nlf, rfl, g2⟩, fun c σ Hx hI => ?_⟩
        obtain ⟨x6, vs, Ss, lo, L, rfl, hfx, hvl, hk, sp, hlo, nlo, rfl, sx⟩ := hI
        have vl20 : vs.length + L.length ≤ 20 := by
          have a1 := parts_le Ss fun P hP => (sp.lt P hP).1
          have a2 := sp.len
          omega
        refine ⟨.ref lo, rfl, Nat.zero_le _, fun e1 he1 => ?_⟩
        have s1 := Sm.new (o := .lst []) he1
        refine ⟨_, _, .lst (SqL.of (s1 _ _ hlo)) (nIdp L), .lst (SqL.of upd_same) .nil, nIshaped L, shaped_list [], !L.isEmpty, ?_, ?_⟩
        · rw [eqv_nil, List.isEmpty_map]
        have hfx1 := s1 _ _ hfx
        cases L with
        | nil =>
          show _
          have ok := sp.done hlv (by omega) ⟨a0, ha0, y, hyS, ely⟩ hall
          refine ⟨.int l, rfl, (by show 1 ≤ sizeLine; decide), fun p3 hp3 => ?_⟩
          have s3 := s1.trans (Sm.new (o := .tup [.int l]) hp3)
          refine ⟨.ref fo, rfl, fo, _, rfl, .inl ⟨SqL.of (s3 _ _ hfx), fun p4 hp4 => ?_⟩⟩
          have s4 := Sm.new (o := .tup vs) hp4
          refine ⟨p3, p4, _, _, rfl, rfl, s4.sqT (SqT.of upd_same), SqT.of upd_same, ?_, fun ap H3 s5 hap => ?_⟩
          · show 1 + vs.length ≤ sizeLine
            exact Nat.le_of_lt (small1000 (by omega))
          · have sZ := s3.trans (s4.trans s5)
            exact q _ _ (sx.trans sZ) (.node hap hvl (fun k v P a b => (hk k v P a b).same sZ) ok)
        | cons a L' =>
          show _
          have haS := sp.sub a List.mem_cons_self
          refine ⟨fun σ' H' => ∃ (x6 : Option V) (vs : List V) (Ss : List (List Nat)) (lo : Addr) (L2 : List Nat), σ' = [some (.ref tp), some (.ref o), some (.int (a0 : Int)), some (.ref lo), some (.ref fo), some (.int l), x6, none] ∧ H' fo = some (.lst vs) ∧ vs.length = Ss.length ∧ (∀ (k : Nat) v P, vs[k]? = some v → Ss[k]? = some P → TrV K H' t m P v) ∧ Split t S l Ss L2 ∧ H' lo = some (.lst (nI L2)) ∧ lo ≠ fo ∧ L2.length < (a :: L').length ∧ Sm H H', fun σ' H' hN => ?_, ?_⟩
          · obtain ⟨y5, vs', Ss', lo', L2, f1, f2, f3, f4, f5, f6, f6b, f7, f8⟩ := hN
            exact ⟨L2.length, f7, y5, vs', Ss', lo', L2, f1, f2, f3, f4, f5, f6, f6b, rfl, f8⟩
          have sx1 := sx.trans s1
          have hat : atI (nI (a :: L')) 0 = some (.int (a : Int)) := atI_nat (j := 0) rfl
          have hll : (a :: L').length ≤ 20 := by omega
          refine ⟨.ref lo, rfl, lo, rfl, ⟨_, SqL.of (s1 _ _ hlo)⟩, fun D1 hD1 => lc_list (xs := nI (a :: L')) (fun k Hy => Hy D1 = some (.lst (nI (((a :: L').take k).filter fun x => decide (lev t a x < l)))) ∧ Sm (upd Hx e1 (.lst [])) Hy) ⟨upd_same, Sm.new hD1⟩ (fun k Hy _ hP => SqL.of (hP.2 _ _ (s1 _ _ hlo))) (fun k v Hy hv hP => ?_) (fun Hy hP => ?_)⟩
          · obtain ⟨k1, k2⟩ := hP
            obtain ⟨z, hz, rfl⟩ := nIat hv
            have sy := sx1.trans k2
            refine ⟨rfl, .ref tp, rfl, .ref lo, rfl, lo, _, _, _, rfl, rfl, SqL.of (k2 _ _ (s1 _ _ hlo)), hat, .int (z : Int), rfl, tp, rs, t, a, z, rfl, .inr (sy.sqT htp), hR.same sy, hW, hS a haS, hS z (sp.sub z (List.mem_of_getElem? hz)), .int l, rfl, _, _, rfl, rfl, _, rfl, ite2 (fun e => ?_) (fun e => ?_)⟩
            · refine ⟨_, rfl, _, k1, ?_, ?_, ?_⟩
              · rw [List.length_map]
                refine small1000 (Nat.le_trans (List.length_filter_le _ _) ?_)
                rw [List.length_take]
                omega
              · rw [upd_same, filt_take _ hz, if_pos e]
                unfold nI
                rw [List.map_append]
                rfl
              · intro b u eb
                rw [upd_ne (ne_of_none eb hD1)]
                exact k2 b u eb
            · refine ⟨?_, k2⟩
              rw [filt_take _ hz, if_neg e, List.append_nil]
              exact k1
          obtain ⟨k1, k2⟩ := hP
          rw [List.take_of_length_le (by rw [List.length_map]; exact Nat.le_refl _)] at k1
          have k1 : Hy D1 = some (.lst (nI (partOf t l a (a :: L')))) := k1
          have sy := sx1.trans k2
          have st := Split.step hU hS hl0 hall ⟨a0, ha0, y, hyS, ely⟩ sp
          have lt' := st.lt _ (List.mem_append_right _ (List.mem_singleton.mpr rfl))
          have pl20 : (partOf t l a (a :: L')).length ≤ 20 := Nat.le_trans (List.length_filter_le _ _) hll
          have hfY := k2 _ _ hfx1
          have nD1 : fo ≠ D1 := ne_of_none hfx1 hD1
          refine nx_mk ?_
          refine ⟨.ref fo, rfl, .inl ⟨rfl, _, SqL.of hfY⟩, .ref tp, rfl, .ref D1, rfl, .ref tp, t, D1, partOf t l a (a :: L'), rfl, hT.same sy, hW, hU, h20, k1, sp.lasc.filter _, lt'.1, by omega, fun x hx => hS x (sp.sub x (List.mem_filter.mp hx).1), fun H2 u s2 hTu => ?_⟩
          have hf2 := s2 _ _ hfY
          refine ⟨fo, vs, _, rfl, rfl, hf2, small1000 (by omega), ?_⟩
          have s12 := s1.trans (k2.trans s2)
          have hfo3 : (upd H2 fo (.lst (vs ++ [u]))) fo = some (.lst (vs ++ [u])) := upd_same
          have hlo3 : (upd H2 fo (.lst (vs ++ [u]))) lo = some (.lst (nI (a :: L'))) := by rw [upd_ne nlo]; exact s12 _ _ hlo
          have hD3 : (upd H2 fo (.lst (vs ++ [u]))) D1 = some (.lst (nI (partOf t l a (a :: L')))) := by rw [upd_ne nD1.symm]; exact s2 _ _ k1
          have hk3 : ∀ (k : Nat) v P, vs[k]? = some v → Ss[k]? = some P → TrV K (upd H2 fo (.lst (vs ++ [u]))) t m P v := fun k v P e1 e2 => ((hk k v P e1 e2).same s12).upd hf2
          have hTu3 : TrV K (upd H2 fo (.lst (vs ++ [u]))) t m (partOf t l a (a :: L')) u := hTu.upd hf2
          have sx3 : Sm H (upd H2 fo (.lst (vs ++ [u]))) := fun c o' e => by rw [upd_ne (ne_of_none e hfoH)]; exact (sx.trans s12) c o' e
          generalize upd H2 fo (.lst (vs ++ [u])) = H3 at hfo3 hlo3 hD3 hk3 hTu3 sx3
          refine ⟨.ref lo, rfl, lo, rfl, ⟨_, SqL.of hlo3⟩, fun D2 hD2 => lc_list (xs := nI (a :: L')) (fun k Hz => Hz D2 = some (.lst (nI (((a :: L').take k).filter fun x => !decide (x ∈ partOf t l a (a :: L'))))) ∧ Sm H3 Hz) ⟨upd_same, Sm.new hD2⟩ (fun k Hz _ hP => SqL.of (hP.2 _ _ hlo3)) (fun k v Hz hv hP => ?_) (fun Hz hP => ?_)⟩
          · obtain ⟨j1, j2⟩ := hP
            obtain ⟨z, hz, rfl⟩ := nIat hv
            refine ⟨rfl, .int (z : Int), rfl, .ref D1, rfl, D1, _, rfl, .inl (SqL.of (j2 _ _ hD3)), rfl, nIflat _, _, rfl, ?_⟩
            show if (!inV (.int (z : Int)) (nI (partOf t l a (a :: L')))) = true then _ else _
            rw [any_nI]
            refine ite2 (fun e => ?_) (fun e => ?_)
            · refine ⟨.int (z : Int), rfl, _, j1, ?_, ?_, ?_⟩
              · rw [List.length_map]
                refine small1000 (Nat.le_trans (List.length_filter_le _ _) ?_)
                rw [List.length_take]
                omega
              · rw [upd_same, filt_take _ hz, if_pos e]
                unfold nI
                rw [List.map_append]
                rfl
              · intro b u eb
                rw [upd_ne (ne_of_none eb hD2)]
                exact j2 b u eb
            · refine ⟨?_, j2⟩
              rw [filt_take _ hz, if_neg e, List.append_nil]
              exact j1
          obtain ⟨j1, j2⟩ := hP
          rw [List.take_of_length_le (by rw [List.length_map]; exact Nat.le_refl _)] at j1
          refine ⟨_, vs ++ [u], Ss ++ [partOf t l a (a :: L')], D2, _, rfl, j2 _ _ hfo3, by rw [List.length_append, List.length_append, hvl]; rfl, fun k v P e1 e2 => ?_, st, j1, (ne_of_none hfo3 hD2).symm, ?_, sx3.trans j2⟩
          · by_cases hkl : k < vs.length
            · rw [List.getElem?_append_left hkl] at e1
              rw [List.getElem?_append_left (by omega)] at e2
              exact (hk3 k v P e1 e2).same j2
            · obtain rfl : k = vs.length := by
                have := (List.getElem?_eq_some_iff.mp e1).1
                rw [List.length_append] at this
                have z : [u].length = 1 := rfl
                omega
              rw [List.getElem?_append_right (Nat.le_refl _), Nat.sub_self] at e1
              rw [hvl, List.getElem?_append_right (Nat.le_refl _), Nat.sub_self] at e2
              cases e1
              cases e2
              exact hTu3.same j2
          · have a1 := st.len
            have a2 := sp.len
            rw [List.map_append, List.sum_append] at a1
            simp only [List.map_cons, List.map_nil, List.sum_cons, List.sum_nil] at a1
            omega
  termination_by n => n
end
section
variable {P : Program} {w : World} {K : PySem.W.Frag} {mg : Str → Option Value} {base : Heap}
/-! ### the law: a ladder -/
structure Lad78 (t : List (List Int)) (a : Int) : Prop where
  wt : WT t
  ul : Ultra t
  top : ∀ i j, i < t.length → j < t.length → lev t i j ≤ a
  pos : 0 ≤ a
theorem lad_start78 : Lad78 [[]] 0 where
  wt := fun i ns h => by
    cases i with
    | zero => cases Option.some.inj h; exact ⟨rfl, fun x hx => absurd hx List.not_mem_nil⟩
    | succ i => simp at h
  ul := fun i j k hi hj hk => by
    have e1 : i = 0 := by simpa using hi
    have e2 : j = 0 := by simpa using hj
    have e3 : k = 0 := by simpa using hk
    subst e1 e2 e3
    omega
  top := fun i j hi hj => by
    have e1 : i = 0 := by simpa using hi
    have e2 : j = 0 := by simpa using hj
    subst e1 e2
    rw [lev_self]
    exact Int.le_refl 0
  pos := Int.le_refl 0
theorem lad_row78 {t : List (List Int)} {a b : Int} (h : Lad78 t a) (h1 : 1 ≤ t.length) (hb : a < b) : List.replicate t.length b = growR t (t.length - 1) b := by
  refine (List.eq_replicate_iff.mpr ⟨growR_len t _ b, fun x hx => ?_⟩).symm
  obtain ⟨k, hk, rfl⟩ := List.mem_map.mp hx
  have := h.top (t.length - 1) k (by omega) (List.mem_range.mp hk)
  omega
theorem lad_snoc78 {t : List (List Int)} {a b : Int} (h : Lad78 t a) (h1 : 1 ≤ t.length) (hb : a < b) (hB : b ≤ 1000000000000) : Lad78 (t ++ [List.replicate t.length b]) b := by
  have lv : LvOk b := by have := h.pos; unfold LvOk; omega
  have e := lad_row78 h h1 hb
  have hn : t.length - 1 < t.length := by omega
  have u : Ultra (t ++ [List.replicate t.length b]) := by rw [e]; exact grow_ultra h.wt h.ul hn lv
  have w : WT (t ++ [List.replicate t.length b]) := by rw [e]; exact grow_wt h.wt hn lv
  refine ⟨w, u, fun i j hi hj => ?_, by have := h.pos; omega⟩
  rw [List.length_append] at hi hj
  have hi : i < t.length + 1 := hi
  have hj : j < t.length + 1 := hj
  by_cases ij : i = j
  · subst ij
    rw [lev_self]
    have := h.pos
    omega
  · have rep : ∀ k : Nat, (List.replicate t.length b).getD k 0 ≤ b := fun k => by
      rw [List.getD_eq_getElem?_getD, List.getElem?_replicate]
      split
      · exact Int.le_refl _
      · show (0 : Int) ≤ b
        have := h.pos
        omega
    by_cases hi2 : i < t.length
    · by_cases hj2 : j < t.length
      · rw [lev_app hi2 hj2]
        have := h.top i j hi2 hj2
        omega
      · obtain rfl : j = t.length := by omega
        rw [lev_last hi2]
        exact rep i
    · obtain rfl : i = t.length := by omega
      rw [lev_lastl (by omega)]
      exact rep j
def sp_ladder78 (K : PySem.W.Frag) : Sp := fun vs H Q _ => ∃ (d c r : Addr) (n cnt : Nat), vs = [.ref d, .int (cnt : Int)] ∧ Dr H d c r n ∧ n ≤ 700000 ∧ 1 ≤ cnt ∧ cnt ≤ 20 ∧
  ∀ (H' : Hp) (v : V) (t : List (List Int)), TT K H' v t → WT t → Ultra t → t.length = cnt → Dr H' d c r (n + 20) → Kp d r H H' → Q v H'
theorem flat_one78 (n : Nat) (b : Int) : (List.replicate n [V.int b]).flatten = (List.replicate n b).map V.int := by
  induction n with
  | zero => rfl
  | succ n ih =>
    rw [List.replicate_succ, List.flatten_cons, ih, List.replicate_succ, List.map_cons]
    rfl
set_option maxHeartbeats 8000000 in
theorem ok_ladder78 {f fN : Addr} {fd fdN : FuncData} {k : Nat} (F : Fun K "_law_ladder" "_law_ladder" s_L_ladder f fd) (D_L_next : Df K mg "_law_next" s_L_next fN fdN ["_law_drawn", "_law_many"]) (B : Bi mg) : FnOk P w K mg base CX0 (k + 2) f fd ["_law_drawn", "_law_count_here"] (sp_ladder78 K) := by
  have G_L_next : FnOk P w K mg base CX0 (k + 1) fN fdN ["_law_drawn", "_law_many"] sp_next := ok_next D_L_next.F B
  refine F.ok sc_L_ladder (fun vs H Q E h => ?_) (fun cdv A outer s H vs Q E hr h => ?_)
  · obtain ⟨d, c, r, n, cnt, rfl, _⟩ := h
    rfl
  · obtain ⟨d, c, r, n, cnt, rfl, hD, hn, h1, h20, q⟩ := h
    have nd := sc_L_ladder.nd
    refine ⟨_, (pss_cons (ps_par (i := 2) (j := 3) rfl nd rfl rfl (by decide) rfl rfl (pa_cons (pe_lst (pa_cons (pe_tup pa_nil) pa_nil)) (pa_cons pe_int pa_nil)) rfl)
      (pss_cons (ps_for PassesOwn.never rfl (pi_range2 rfl B.range (pa_cons pe_int (pa_cons (pv 1) pa_nil))) (pg_name (i := 4) nd rfl (.inl rfl))
      (pss_cons (ps_set (i := 3) nd rfl (.inl rfl) (pe_op op_add (pe_op op_add (pv 3) pe_int) (pe_cl D_L_next G_L_next hr (pa_cons (pv 0) (pa_cons pe_int pa_nil)))))
      (pss_one (ps_expr (pe_bm PySem.F.plainAttrs_list PySem.F.slot_list_append PySem.F.type_list_append mt_append (pv 2) (pa_cons (pe_op op_repW (pe_tup (pa_cons (pv 3) pa_nil)) (pv 4)) pa_nil))))))
      (pss_one (ps_ret (pe_callTy call_tuple_of (by rfl) B.tuple (by decide +kernel) (pa_cons (pv 2) pa_nil)))))), ?_⟩
    refine ⟨Nat.zero_le _, fun e0 he0 => ⟨small1000 (Nat.le_of_ble_eq_true rfl), fun rw he1 => ?_⟩⟩
    have sE := Sm.new (o := .tup []) he0
    have qe : SqT K (upd H e0 (.tup [])) e0 [] := SqT.of upd_same
    generalize upd H e0 (.tup []) = H1 at sE he1 qe
    have s2 : Sm H1 (upd H1 rw (.lst [.ref e0])) := Sm.new he1
    have hrwH : H rw = none := Sm.free sE he1
    have nrw := hD.ne hrwH
    have hrw2 : (upd H1 rw (.lst [.ref e0])) rw = some (.lst [.ref e0]) := upd_same
    have q2 := s2.sqT qe
    have s02 := sE.trans s2
    generalize upd H1 rw (.lst [.ref e0]) = H2 at s2 hrw2 q2 s02
    refine ⟨_, _, rfl, ?_⟩
    refine nx_mk ?_
    refine ⟨.int (cnt : Int), rfl, 1, (cnt : Int), rfl, ⟨by decide, by decide, by omega, by omega⟩, for_range (n := ((cnt : Int) - 1).toNat) (fun i σ Hx => ∃ x4 a xs t, σ = [some (.ref d), some (.int (cnt : Int)), some (.ref rw), some (.int a), x4] ∧ Hx rw = some (.lst xs) ∧ Rows K Hx xs t ∧ Lad78 t a ∧ a ≤ 6 * (i : Int) ∧ t.length = i + 1 ∧ Dr Hx d c r (n + i) ∧ Kp d r H Hx)
      ⟨none, 0, [.ref e0], [[]], rfl, hrw2, Rows.nil.snoc ⟨e0, rfl, q2⟩, lad_start78, by omega, rfl, hD.same s02, s02.kp⟩ (fun i σ Hx hi hI => ?_) (fun σ Hx hI => ?_)⟩
    · obtain ⟨x4, a, xs, t, rfl, hx, hR, hL, ha, hl, hDx, kx⟩ := hI
      rw [show (1 : Int) + (i : Int) = ((i + 1 : Nat) : Int) by omega]
      show _
      refine ⟨.int a, rfl, _, _, rfl, rfl, .ref d, rfl, d, c, r, _, 5, rfl, hDx, by omega, by decide, by decide, fun H3 k3 l3 D3 kp3 => ?_⟩
      refine ⟨_, _, rfl, rfl, ?_⟩
      refine nx_mk ?_
      have k23 := kx.trans kp3
      have hx3 := kp3 _ _ hx nrw.1 nrw.2.2
      have hR3 : Rows K H3 xs t := hR.kp hDx kp3
      refine ⟨.ref rw, rfl, .inl ⟨rfl, _, SqL.of hx3⟩, ?_⟩
      refine ⟨.int (a + 1 + (k3 : Int)), rfl, small1000 (Nat.le_of_ble_eq_true rfl), fun p4 hp4 => ?_⟩
      have s4 : Sm H3 (upd H3 p4 (.tup [.int (a + 1 + (k3 : Int))])) := Sm.new hp4
      have hp44 : SqT K (upd H3 p4 (.tup [.int (a + 1 + (k3 : Int))])) p4 [.int (a + 1 + (k3 : Int))] := SqT.of upd_same
      generalize upd H3 p4 (.tup [.int (a + 1 + (k3 : Int))]) = H4 at s4 hp44
      refine ⟨.int ((i + 1 : Nat) : Int), rfl, p4, _, _, rfl, rfl, hp44, by simp, by omega, by omega, Nat.le_of_ble_eq_true rfl, fun p5 H5 s5 hp5 => ?_⟩
      rw [flat_one78, show (((i + 1 : Nat) : Int)).toNat = t.length by omega] at hp5
      have s35 := s4.trans s5
      have hx5 := s35 _ _ hx3
      have D5 := D3.same s35
      have xl := hR.1
      refine ⟨rw, xs, _, rfl, rfl, hx5, small1000 (by omega), ?_⟩
      refine ⟨_, a + 1 + (k3 : Int), xs ++ [.ref p5], t ++ [List.replicate t.length (a + 1 + (k3 : Int))], rfl, upd_same, ((hR3.same s35).snoc ⟨p5, rfl, hp5⟩).upd hx5, lad_snoc78 hL (by omega) (by omega) (by omega), by omega, by rw [List.length_append]; show t.length + 1 = _; omega, (D5.upd nrw.1 nrw.2.1 nrw.2.2).mono (by omega), fun b o e n1 n2 => ?_⟩
      rw [upd_ne (ne_of_none e hrwH)]
      exact s35 _ _ (k23 b o e n1 n2)
    · obtain ⟨x4, a, xs, t, rfl, hx, hR, hL, ha, hl, hDx, kx⟩ := hI
      show _
      refine ⟨.ref rw, rfl, rw, _, rfl, .inl ⟨SqL.of hx, fun p hp => ?_⟩⟩
      have s9 := Sm.new (o := .tup xs) hp
      exact q _ _ t ⟨p, xs, rfl, SqT.of upd_same, hR.same s9⟩ hL.wt hL.ul (by omega) ((hDx.same s9).mono (by omega)) (kx.trans s9.kp)
end
section
variable {P : Program} {w : World} {K : PySem.W.Frag} {mg : Str → Option Value} {base : Heap}
/-! ### values of any kind that are equal -/
def rEqSame (K : PySem.W.Frag) : R2 := fun x y H Q => ∃ a xs, x = .ref a ∧ y = .ref a ∧ SqL K H a xs ∧ Q (.bl true) H
theorem op_eqSame {X : Cx} (hu : X.A.units + 64 < cLine) : OpR X (compareOp .Eq) (rEqSame X.K) := by
  intro pins s σ H x y v u Q I r1 r2 h
  obtain ⟨a, xs, rfl, rfl, h1, q⟩ := h
  cases r1
  cases r2
  obtain ⟨its, ri, pi, _⟩ := I.list h1
  have e : ((List.range its.toArray.size).all fun _ => true) = true := by simp
  have z := SeqAt.RcAt.lists (A := X.A) (s := s) (e := fun _ => true) (plain_isl pi) (plain_isl pi) rfl (by omega) (fun j _ _ => SeqAt.EqAt.same _)
  rw [e] at z
  exact z X.prog X.w _ _ ⟨.bl true, H, I, rfl, q⟩
def rEqY (K : PySem.W.Frag) : R2 := fun x y H Q => rEq x y H Q ∨ rEqSame K x y H Q ∨ rEqDA x y H Q
theorem op_eqY {X : Cx} {k : Nat} (hr : Room k X.A) : OpR X (compareOp .Eq) (rEqY X.K) := by
  intro pins s σ H x y v u Q I r1 r2 h
  rcases h with h | h | h
  · exact op_eq pins s σ H x y v u Q I r1 r2 h
  · exact op_eqSame hr.units pins s σ H x y v u Q I r1 r2 h
  · exact op_eq_dictA hr.units0 pins s σ H x y v u Q I r1 r2 h
theorem ty_lstY {H : Hp} {a : Addr} {xs : List V} (h : SqL K H a xs) : TyX K H (.ref a) (.type "list") := by
  rcases h with (h | ⟨o, h⟩) | ⟨o, its, n, h1, h2, _⟩
  · exact .base (.lst h)
  · exact .base (.frz h)
  · exact .kList h1 h2
/-- what is not split: its type, and that it is equal to itself -/
inductive Lf (K : PySem.W.Frag) (H : Hp) : V → Prop where
  | int (i : Int) : Lf K H (.int i)
  | non : Lf K H .non
  | str (x : Str) : Lf K H (.str x)
  | lst {a : Addr} {xs : List V} (h : SqL K H a xs) : Lf K H (.ref a)
  | dct {a : Addr} (h : H a = some (.dK [])) : Lf K H (.ref a)
theorem Lf.same {H H' : Hp} {v : V} (h : Lf K H v) (e : Sm H H') : Lf K H' v := by
  cases h with
  | int i => exact .int i
  | non => exact .non
  | str x => exact .str x
  | lst h => exact .lst (e.sqL h)
  | dct h => exact .dct (e _ _ h)
theorem Lf.key {H : Hp} {v : V} (h : Lf K H v) : ∃ (ty : String) (bi bs : Bool), TyX K H v (.type ty) ∧ kitB ty "tuple" = some false ∧ kitB ty "bool" = some false ∧ kitB ty "int" = some bi ∧ kitB ty "str" = some bs ∧ ∀ Q : VK, Q (.bl true) H → rEqY K v v H Q := by
  cases h with
  | int i => exact ⟨"int", true, false, .base (.int i), by decide +kernel, by decide +kernel, by decide +kernel, by decide +kernel, fun Q q => .inl ⟨rfl, by rw [decide_eq_true rfl]; exact q⟩⟩
  | non => exact ⟨"NoneType", false, false, .base .non, by decide +kernel, by decide +kernel, by decide +kernel, by decide +kernel, fun Q q => .inl ⟨rfl, by rw [decide_eq_true rfl]; exact q⟩⟩
  | str x => exact ⟨"str", false, true, .base (.str x), by decide +kernel, by decide +kernel, by decide +kernel, by decide +kernel, fun Q q => .inl ⟨rfl, by rw [decide_eq_true rfl]; exact q⟩⟩
  | @lst a xs h => exact ⟨"list", false, false, ty_lstY h, by decide +kernel, by decide +kernel, by decide +kernel, by decide +kernel, fun Q q => .inr (.inl ⟨a, xs, rfl, rfl, h, q⟩)⟩
  | @dct a h => exact ⟨"dict", false, false, .base (.dK h), by decide +kernel, by decide +kernel, by decide +kernel, by decide +kernel, fun Q q => .inr (.inr ⟨a, a, [], [], rfl, rfl, h, h, rfl, fun p hp => by simp at hp, q⟩)⟩
/-- two values that are equal, part by part -/
def EqY (K : PySem.W.Frag) (H : Hp) : Nat → V → V → Prop
  | 0, x, y => x = y ∧ (Lf K H x ∨ ∃ b, x = .bl b)
  | n + 1, x, y => (x = y ∧ (Lf K H x ∨ ∃ b, x = .bl b)) ∨ ∃ a b xs ys, x = .ref a ∧ y = .ref b ∧ SqT K H a xs ∧ SqT K H b ys ∧ xs.length = ys.length ∧ xs.length ≤ 1000000 ∧ ∀ (i : Nat) u z, xs[i]? = some u → ys[i]? = some z → EqY K H n u z
theorem EqY.leaf {H : Hp} {n : Nat} {x : V} (h : Lf K H x ∨ ∃ b, x = .bl b) : EqY K H n x x := by
  cases n with
  | zero => exact ⟨rfl, h⟩
  | succ n => exact .inl ⟨rfl, h⟩
theorem EqY.tup {H : Hp} {n : Nat} {a b : Addr} {xs ys : List V} (h1 : SqT K H a xs) (h2 : SqT K H b ys) (hl : xs.length = ys.length) (hm : xs.length ≤ 1000000) (h : ∀ (i : Nat) u z, xs[i]? = some u → ys[i]? = some z → EqY K H n u z) : EqY K H (n + 1) (.ref a) (.ref b) := .inr ⟨a, b, xs, ys, rfl, rfl, h1, h2, hl, hm, h⟩
theorem EqY.same {H H' : Hp} (e : Sm H H') : ∀ {n : Nat} {x y : V}, EqY K H n x y → EqY K H' n x y
  | 0, _, _, ⟨a, b⟩ => ⟨a, b.imp (fun l => l.same e) id⟩
  | n + 1, _, _, .inl ⟨a, b⟩ => .inl ⟨a, b.imp (fun l => l.same e) id⟩
  | n + 1, _, _, .inr ⟨a, b, xs, ys, h1, h2, h3, h4, h5, h6, h7⟩ => .inr ⟨a, b, xs, ys, h1, h2, e.sqT h3, e.sqT h4, h5, h6, fun i u z p q => EqY.same e (h7 i u z p q)⟩
theorem IT.eqY {H : Hp} {u v : V} {ns : List Int} (h : IT K H u ns) (g : IT K H v ns) (hl : ns.length ≤ 1000) {n : Nat} : EqY K H (n + 1) u v := by
  obtain ⟨p, rfl, hp⟩ := h
  obtain ⟨q, rfl, hq⟩ := g
  refine EqY.tup hp hq rfl (by rw [List.length_map]; omega) fun i a b ha hb => ?_
  obtain rfl := Option.some.inj (ha.symm.trans hb)
  rw [List.getElem?_map] at ha
  cases e : ns[i]? with
  | none => rw [e] at ha; cases ha
  | some z => rw [e] at ha; obtain rfl := Option.some.inj ha; exact .leaf (.inl (.int z))
theorem TT.eqY {H : Hp} {u v : V} {t : List (List Int)} (h : TT K H u t) (g : TT K H v t) (hW : WT t) (hl : t.length ≤ 1000) {n : Nat} : EqY K H (n + 2) u v := by
  obtain ⟨p, xs, rfl, hp, hR⟩ := h
  obtain ⟨q, ys, rfl, hq, hS⟩ := g
  refine EqY.tup hp hq (by rw [hR.1, hS.1]) (by rw [hR.1]; omega) fun i a b ha hb => ?_
  have hi : i < t.length := by rw [← hR.1]; exact (List.getElem?_eq_some_iff.mp ha).1
  have e := List.getElem?_eq_getElem hi
  have := (hW i _ e).1
  exact IT.eqY (hR.2 i a _ ha e) (hS.2 i b _ hb e) (by omega)
def sp_equalY (K : PySem.W.Frag) : Nat → Sp
  | 0 => fun _ _ _ _ => False
  | n + 1 => fun vs H Q _ => ∃ (x y : V), vs = [x, y] ∧ EqY K H n x y ∧ ∀ H', Sm H H' → Q (.bl true) H'
theorem isi_no {a b : String} {r : Bool} (h : kitB a b = some r) : PySem.W.kitOne K (.type a) (.type b) = some r := kit_ty h
theorem ok_equalY {f : Addr} {fd : FuncData} (D : Df K mg "_law_equal" s_L_equal f fd ["_law_one_here", "_law_other"]) (B : Bi mg) : ∀ n, FnOk P w K mg base CX0 (n + 1) f fd ["_law_one_here", "_law_other"] (sp_equalY K n)
  | 0 => ⟨fun _ _ _ _ h => h.elim, fun _ _ _ _ _ _ _ _ _ _ _ _ _ h => h.elim⟩
  | n + 1 => by
    have G := ok_equalY D B n
    refine D.F.ok sc_L_equal (fun vs H Q E h => ?_) (fun cdv A outer s H vs Q E hr h => ?_)
    · obtain ⟨x, y, rfl, _⟩ := h
      rfl
    · obtain ⟨x, y, rfl, hxy, q⟩ := h
      have nd := sc_L_equal.nd
      refine ⟨_, pss_cons (ps_if (PW.pt (pw_and (pt_val (pe_callB call_isi (by rfl) B.isinstance (by decide +kernel) (pa_cons (pv 0) (pa_cons (pe_bltn (by rfl) B.tuple (by decide +kernel) (v := .ty "tuple") rfl) pa_nil))))
            (pw_and1 (pt_val (pe_callB call_isi (by rfl) B.isinstance (by decide +kernel) (pa_cons (pv 1) (pa_cons (pe_bltn (by rfl) B.tuple (by decide +kernel) (v := .ty "tuple") rfl) pa_nil)))))))
          (pss_one (ps_ret (pe_and (pe_cmpR op_eq (pe_len B (pv 0)) (pe_len B (pv 1)) (nomark _)) (pe_one (pe_callB (cr_all rfl) (by rfl) B.all (by decide +kernel) (pa_cons
            (pe_lc (own := [("_law_a", 2), ("_law_b", 3)]) (g := gTup K 2 (gCons (gName 2) (gCons (gName 3) gNil))) (tt := tYes) rfl nd (RZ.pi_zipA (by rfl) B.zip (pa_cons (pv 0) (pa_cons (pv 1) pa_nil))) (blkOk_by (N := N_L_equal) (sc := defScope s_L_equal) (by decide +kernel))
              (fun _ _ _ _ _ => pg_tup rfl (pgs_cons (pg_name (i := 2) nd rfl (.inl rfl)) (pgs_cons (pg_name (i := 3) nd rfl (.inl rfl)) pgs_nil))) (fun _ _ _ _ _ => pts_nil)
              (fun _ _ _ _ _ => pe_cl D G hr (pa_cons (pv 2) (pa_cons (pv 3) pa_nil)))) pa_nil)))))) pss_nil)
        (pss_cons (ps_if (PW.pt (pw_or (pt_val (pe_callB call_isi (by rfl) B.isinstance (by decide +kernel) (pa_cons (pv 0) (pa_cons (pe_bltn (by rfl) B.bool (by decide +kernel) (v := .ty "bool") rfl) pa_nil))))
            (pw_or1 (pt_val (pe_callB call_isi (by rfl) B.isinstance (by decide +kernel) (pa_cons (pv 1) (pa_cons (pe_bltn (by rfl) B.bool (by decide +kernel) (v := .ty "bool") rfl) pa_nil)))))))
          (pss_one (ps_ret (pe_and (pe_callB call_isi (by rfl) B.isinstance (by decide +kernel) (pa_cons (pv 0) (pa_cons (pe_bltn (by rfl) B.bool (by decide +kernel) (v := .ty "bool") rfl) pa_nil)))
            (pe_and (pe_callB call_isi (by rfl) B.isinstance (by decide +kernel) (pa_cons (pv 1) (pa_cons (pe_bltn (by rfl) B.bool (by decide +kernel) (v := .ty "bool") rfl) pa_nil))) (pe_one (pe_cmpR op_eq (pv 0) (pv 1) (nomark _))))))) pss_nil)
        (pss_cons (ps_if (pt_cmpR op_ne (pe_callB call_isi (by rfl) B.isinstance (by decide +kernel) (pa_cons (pv 0) (pa_cons (pe_bltn (by rfl) B.tuple (by decide +kernel) (v := .ty "tuple") rfl) pa_nil))) (pe_callB call_isi (by rfl) B.isinstance (by decide +kernel) (pa_cons (pv 1) (pa_cons (pe_bltn (by rfl) B.tuple (by decide +kernel) (v := .ty "tuple") rfl) pa_nil))) (nomark _))
          (pss_one (ps_ret pe_bl)) pss_nil)
        (pss_cons (ps_if (pt_cmpR op_ne (pe_callB call_isi (by rfl) B.isinstance (by decide +kernel) (pa_cons (pv 0) (pa_cons (pe_bltn (by rfl) B.int (by decide +kernel) (v := .ty "int") rfl) pa_nil))) (pe_callB call_isi (by rfl) B.isinstance (by decide +kernel) (pa_cons (pv 1) (pa_cons (pe_bltn (by rfl) B.int (by decide +kernel) (v := .ty "int") rfl) pa_nil))) (nomark _))
          (pss_one (ps_ret pe_bl)) pss_nil)
        (pss_one (ps_ret (pe_and (pe_cmpR op_eq (pe_callB call_isi (by rfl) B.isinstance (by decide +kernel) (pa_cons (pv 0) (pa_cons (pe_bltn (by rfl) B.str (by decide +kernel) (v := .ty "str") rfl) pa_nil))) (pe_callB call_isi (by rfl) B.isinstance (by decide +kernel) (pa_cons (pv 1) (pa_cons (pe_bltn (by rfl) B.str (by decide +kernel) (v := .ty "str") rfl) pa_nil))) (nomark _))
          (pe_one (pe_cmpR (op_eqY hr) (pv 0) (pv 1) (nomark _))))))))), ?_⟩
      have cut : (x = y ∧ (Lf K H x ∨ ∃ b, x = .bl b)) ∨ ∃ m ax ay xs ys, n = m + 1 ∧ x = .ref ax ∧ y = .ref ay ∧ SqT K H ax xs ∧ SqT K H ay ys ∧ xs.length = ys.length ∧ xs.length ≤ 1000000 ∧ ∀ (i : Nat) u z, xs[i]? = some u → ys[i]? = some z → EqY K H m u z := by
        cases n with
        | zero => exact .inl hxy
        | succ m =>
          rcases hxy with hxy | ⟨ax, ay, xs, ys, h1, h2, h3, h4, h5, h6, h7⟩
          · exact .inl hxy
          · exact .inr ⟨m, ax, ay, xs, ys, rfl, h1, h2, h3, h4, h5, h6, h7⟩
      clear hxy
      rcases cut with ⟨rfl, hl | ⟨b, rfl⟩⟩ | ⟨m, ax, ay, xs, ys, rfl, rfl, rfl, hs, hs2, hly, hl, hd⟩
      · obtain ⟨tn, bi, bs, tx, k1, k2, k3, k4, heq⟩ := hl.key
        refine ⟨x, rfl, x, .ty "tuple", _, _, false, rfl, .ty _, tx, isi_no k1, false, rfl, ?_⟩
        refine ⟨x, rfl, x, .ty "bool", _, _, false, rfl, .ty _, tx, isi_no k2, false, rfl, ⟨x, rfl, x, .ty "bool", _, _, false, rfl, .ty _, tx, isi_no k2, false, rfl, ?_⟩⟩
        refine ⟨x, rfl, x, .ty "tuple", _, _, false, rfl, .ty _, tx, isi_no k1, x, rfl, x, .ty "tuple", _, _, false, rfl, .ty _, tx, isi_no k1, rfl, _, rfl, ?_⟩
        refine ⟨x, rfl, x, .ty "int", _, _, bi, rfl, .ty _, tx, isi_no k3, x, rfl, x, .ty "int", _, _, bi, rfl, .ty _, tx, isi_no k3, rfl, _, rfl, iteNS rfl ?_⟩
        refine ⟨x, rfl, x, .ty "str", _, _, bs, rfl, .ty _, tx, isi_no k4, x, rfl, x, .ty "str", _, _, bs, rfl, .ty _, tx, isi_no k4, rfl, true, by rw [decide_eq_true rfl], ?_⟩
        exact ⟨x, rfl, x, rfl, heq _ (q _ (Sm.refl _))⟩
      · have tx : TyX K H (.bl b) (.type "bool") := .base (.bl b)
        refine ⟨_, rfl, .bl b, .ty "tuple", _, _, false, rfl, .ty _, tx, isi_no (show kitB "bool" "tuple" = some false by decide +kernel), false, rfl, ⟨_, rfl, .bl b, .ty "bool", _, _, true, rfl, .ty _, tx, isi_no (show kitB "bool" "bool" = some true by decide +kernel), true, rfl, ?_⟩⟩
        exact ⟨_, rfl, .bl b, .ty "bool", _, _, true, rfl, .ty _, tx, isi_no (show kitB "bool" "bool" = some true by decide +kernel), true, rfl, ⟨_, rfl, .bl b, .ty "bool", _, _, true, rfl, .ty _, tx, isi_no (show kitB "bool" "bool" = some true by decide +kernel), true, rfl, ⟨_, rfl, _, rfl, rfl, by rw [decide_eq_true rfl]; exact q _ (Sm.refl _)⟩⟩⟩
      · refine ⟨_, rfl, .ref ax, .ty "tuple", _, _, true, rfl, .ty _, ty_tup hs, isi_no (show kitB "tuple" "tuple" = some true by decide +kernel), true, rfl, ⟨_, rfl, .ref ay, .ty "tuple", _, _, true, rfl, .ty _, ty_tup hs2, isi_no (show kitB "tuple" "tuple" = some true by decide +kernel), true, rfl, ?_⟩⟩
        refine ⟨_, rfl, ax, xs, rfl, .inr hs, _, rfl, ay, ys, rfl, .inr hs2, rfl, true, by rw [decide_eq_true (by rw [hly])], ?_⟩
        refine ⟨_, rfl, _, rfl, ax, ay, xs, ys, rfl, .inr ⟨hs, hs2, fun R hR => ?_⟩⟩
        refine ⟨fun i m Hx => m = xs.length - i ∧ i ≤ xs.length ∧ ∃ bs : List Bool, Hx R = some (.lst (bs.map V.bl)) ∧ bs.length = i ∧ bs.all id = true ∧ Sm H Hx, ⟨xs.length, by omega, by omega, [], upd_same, rfl, rfl, Sm.new hR⟩, ?_⟩
        rintro i m' Hx ⟨rfl, hi, bs, h1, h2, h3, h4⟩
        by_cases hlt : i < xs.length
        · refine .inr ⟨⟨xs, ys, _, _, h4.sqT hs, h4.sqT hs2, List.getElem?_eq_getElem hlt, List.getElem?_eq_getElem (show i < ys.length by omega)⟩, fun Hy => ∃ bs : List Bool, Hy R = some (.lst (bs.map V.bl)) ∧ bs.length = i + 1 ∧ bs.all id = true ∧ Sm H Hy, fun Hy hy => ⟨xs.length - (i + 1), by omega, rfl, by omega, hy⟩, fun x' Hy hy => ?_⟩
          obtain ⟨T, x1, y1, rfl, hT, rfl, f1, f2⟩ := hy
          have g1 := f1 xs (h4.sqT hs)
          have g2 := f2 ys (h4.sqT hs2)
          have sT : Sm Hx (upd Hx T (.tup [x1, y1])) := Sm.new hT
          have s5 := h4.trans sT
          refine ⟨T, _, rfl, SqT.of upd_same, rfl, _, _, rfl, _, _, rfl, rfl, rfl, ?_⟩
          refine ⟨x1, rfl, y1, rfl, x1, y1, rfl, (hd _ _ _ g1 g2).same s5, fun H6 s6 => ?_⟩
          have h6 := s6 _ _ (sT _ _ h1)
          refine ⟨_, h6, by rw [List.length_map]; exact lt_line (by omega), bs ++ [true], by rw [upd_same, List.map_append]; rfl, by rw [List.length_append, h2]; rfl, by rw [List.all_append, h3]; rfl, ?_⟩
          intro b o e
          rw [upd_ne (ne_of_none e hR)]
          exact s6 _ _ (s5 b o e)
        · refine .inl ⟨⟨xs, ys, h4.sqT hs, h4.sqT hs2, .inl (by omega)⟩, R, bs, rfl, SqL.of h1, ?_⟩
          rw [h3]
          exact q _ h4
end
theorem wt_drop1 {ds : List PyData} {d : PyData} : wt (.tuple (d :: ds)) = wt d + 2 + wtAll ds + 3 := rfl
/-! ### trees as data, and the law's values -/
theorem kidsD {K : PySem.W.Frag} {H : Hp} {n : Nat} : ∀ {vs : List V} {Ss : List (List Nat)}, vs.length = Ss.length → (∀ (k : Nat) v P, vs[k]? = some v → Ss[k]? = some P → ∃ d, Da K noL H v d ∧ Sz bigB n d ∧ wt d + 54 ≤ 99 * P.length) →
    ∃ ds, DaAll K noL H vs ds ∧ (∀ y ∈ ds, Sz bigB n y) ∧ wtAll ds + 52 * Ss.length ≤ 99 * (Ss.map List.length).sum
  | [], [], _, _ => ⟨[], .nil, fun y hy => by simp at hy, by simp [wtAll]⟩
  | [], _ :: _, e, _ => by simp at e
  | _ :: _, [], e, _ => by simp at e
  | v :: vs, P :: Ss, e, h => by
    obtain ⟨d, d1, d2, d3⟩ := h 0 v P rfl rfl
    obtain ⟨ds, a1, a2, a3⟩ := kidsD (vs := vs) (Ss := Ss) (by simpa using e) fun k u Q x y => h (k + 1) u Q (by simpa using x) (by simpa using y)
    refine ⟨d :: ds, .cons d1 a1, fun y hy => ?_, ?_⟩
    · rcases List.mem_cons.mp hy with rfl | hy
      · exact d2
      · exact a2 y hy
    · simp only [wtAll, List.map_cons, List.sum_cons, List.length_cons]
      omega
theorem TrV.dat {K : PySem.W.Frag} {H : Hp} {t : List (List Int)} {n : Nat} {S : List Nat} {v : V} (h : TrV K H t n S v) : ∃ d, Da K noL H v d ∧ Sz bigB n d ∧ wt d + 54 ≤ 99 * S.length := by
  induction h with
  | leaf n i hi => exact ⟨.int (i : Int), .int _, Sz.int (by unfold bigB; omega), by show 45 + 54 ≤ 99 * 1; decide⟩
  | node h hl _ ok ih =>
    rename_i n S p l vs Ss hk
    obtain ⟨ds, a1, a2, a3⟩ := kidsD hl ih
    have lv := ok.lv
    refine ⟨.tuple (.int l :: ds), .tup h (.cons (.int l) a1), fun y hy => ?_, ?_⟩
    · rcases List.mem_cons.mp hy with rfl | hy
      · exact Sz.int (by unfold LvOk at lv; unfold bigB; omega)
      · exact a2 y hy
    · have e2 := two_parts ok
      have e3 := ok.len
      rw [wt_drop1]
      have : wt (.int l) = 45 := rfl
      omega
section
variable {P : Program} {w : World} {K : PySem.W.Frag} {mg : Str → Option Value} {base : Heap}
/-! ### the law: a table right, a tree right -/
theorem pe_clG78 {X : Cx} {k : Nat} {f : Addr} {fd : FuncData} {ps : List Str} {sp : Sp} {x : Str} {p pos : Pos} {e : Expr} {es : List Expr} {t : TA} {st : Stmt} (D : Df X.K X.mg x st f fd ps) (G : GOk X.prog X.w X.K X.mg X.base k f fd ps sp) (hgu : X.A.guards = some []) (hr : Room k X.A) (ha : PA X (e :: es) t) (hg : Gl X x := by rfl) (hdb : (x == ("__debug__" : Str)) = false := by decide) (he : starEach (e :: es) X.env = (false, eval e X.env) :: starEach es X.env := by rfl) (hpl : (backTo pos (starEach es X.env)).any (·.1) = false := by rfl) : PE X (.Call (.Name x p) (e :: es) [] pos) (tCall sp [] E0 t) :=
  pe_callG G hgu hr hg D.g D.F.kp D.b .nil pass0 ha hdb he hpl
theorem same_two78 {H : Hp} {p q : Addr} {a b a' b' : V} {n : Nat} (h1 : SqT K H p [a, b]) (h2 : SqT K H q [a', b']) (e1 : EqY K H n a a') (e2 : EqY K H n b b') : EqY K H (n + 1) (.ref p) (.ref q) :=
  EqY.tup h1 h2 rfl (by show 2 ≤ 1000000; decide) fun o u1 u2 z1 z2 => by
    match o, z1, z2 with
    | 0, z1, z2 =>
      cases Option.some.inj z1
      cases Option.some.inj z2
      exact e1
    | 1, z1, z2 =>
      cases Option.some.inj z1
      cases Option.some.inj z2
      exact e2
    | o + 2, z1, z2 => simp at z1
def sp_tabr78 (K : PySem.W.Frag) : Sp := fun vs H Q _ => ∃ (tv : V) (t : List (List Int)), vs = [tv] ∧ TT K H tv t ∧ WT t ∧ 1 ≤ t.length ∧ t.length ≤ 12 ∧ ∀ H', Sm H H' → Q (.bl true) H'
set_option maxHeartbeats 8000000 in
theorem ok_tabr78 {f f1 f2 f3 f4 : Addr} {fd fd1 fd2 fd3 fd4 : FuncData} {k : Nat} (F : Fun K "_law_table_right" "_law_table_right" s_L_table_right f fd) (D_L_table_text : Df K mg "_law_table_text" s_L_table_text f1 fd1 ["_law_table_here"]) (D_L_equal : Df K mg "_law_equal" s_L_equal f2 fd2 ["_law_one_here", "_law_other"]) (D_format_table : Df K mg "format_table" s_format_table f3 fd3 ["table"]) (D_parse_table : Df K mg "parse_table" s_parse_table f4 fd4 ["value"])
    (G_L_table_text : FnOk P w K mg base CX0 k f1 fd1 ["_law_table_here"] (sp_ftab78 K)) (G_L_equal : FnOk P w K mg base CX0 k f2 fd2 ["_law_one_here", "_law_other"] (sp_equalY K 7)) (G_format_table : FnOk P w K mg base CX0 k f3 fd3 ["table"] (sp_ftab78 K)) (G_parse_table : FnOk P w K mg base CX0 k f4 fd4 ["value"] (sp_ptab78 K)) (B : Bi mg) :
    GOk P w K mg base (k + 1) f fd ["_law_table_here"] (sp_tabr78 K) := by
  refine fun_G F sc_L_table_right (fun vs H Q E h => ?_) (fun cdv A outer s0 H vs Q E hg hr h => ?_)
  · obtain ⟨tv, t, rfl, _⟩ := h
    rfl
  · obtain ⟨tv, t, rfl, hT, hW, h1, h12, q⟩ := h
    have nd := sc_L_table_right.nd
    refine ⟨_, (pss_cons (ps_par (i := 1) (j := 2) rfl nd rfl rfl (by decide) rfl rfl (pa_cons (pe_callB (cr_reprZ hg hr) (by rfl) B.repr (by decide +kernel) (pa_cons (pv 0) pa_nil)) (pa_cons (pe_cl D_L_table_text G_L_table_text hr (pa_cons (pv 0) pa_nil)) pa_nil)) rfl)
      (pss_cons (ps_for PassesOwn.never rfl (pi_range1 rfl B.range (pa_cons pe_int pa_nil)) (pg_name (i := 3) nd rfl (.inl rfl))
      (pss_one (ps_if (PW.pt (pw_or (pt_not (pt_val (pe_cl D_L_equal G_L_equal hr (pa_cons (pe_tup (pa_cons (pe_cl D_format_table G_format_table hr (pa_cons (pv 0) pa_nil)) (pa_cons (pe_cl D_parse_table G_parse_table hr (pa_cons (pv 2) pa_nil)) pa_nil))) (pa_cons (pe_tup (pa_cons (pv 2) (pa_cons (pv 0) pa_nil))) pa_nil))))) (pw_or1 (pt_cmpR op_ne (pe_callB (cr_reprZ hg hr) (by rfl) B.repr (by decide +kernel) (pa_cons (pv 0) pa_nil)) (pv 1) (nomark _)))))
      (pss_one (ps_ret pe_bl))
      pss_nil)))
      (pss_one (ps_ret pe_bl)))), ?_⟩
    obtain ⟨tp, rs, rfl, htp, hR⟩ := id hT
    obtain ⟨zt1, zt2⟩ := tab_sz hW h12
    have psz : Sz bigB 2 (tabD t) := fun y hy => zt1 y hy
    have pwt : wt (tabD t) ≤ 16000000 := by
      have : wt (tabD t) = wtAll (t.map rowD) + 3 := rfl
      omega
    obtain ⟨e1, e2, e3⟩ := showZ psz pwt
    refine ⟨.ref tp, rfl, allOk, _, _, rfl, hT.da, e1, e2, e3, ?_⟩
    refine ⟨.ref tp, rfl, .ref tp, t, rfl, hT, hW, h1, by omega, fun H1 z s1 hz => ?_⟩
    refine ⟨_, _, rfl, ?_⟩
    refine nx_mk ?_
    refine ⟨2, rfl, by decide, by decide, for_range (n := 2) (fun i σ Hx => ∃ x3, σ = [some (.ref tp), some (.str (tabD t).shown), some (.str z), x3] ∧ Sm H Hx) ⟨none, rfl, s1⟩ (fun i σ Hx hi hI => ?_) (fun σ Hx hI => ?_)⟩
    · obtain ⟨x3, rfl, sx⟩ := hI
      show _
      refine ⟨.ref tp, rfl, .ref tp, t, rfl, hT.same sx, hW, h1, by omega, fun H2 y s2 hy => ?_⟩
      obtain rfl : y = z := TL.ext_tl (hy.trans hz.symm)
      refine ⟨.str y, rfl, y, t, rfl, hz, hW, h1, h12, fun H3 u s3 hu => ?_⟩
      refine ⟨small1000 (Nat.le_of_ble_eq_true rfl), fun p1 hp1 => ?_⟩
      have s4 : Sm H3 (upd H3 p1 (.tup [.str y, u])) := Sm.new hp1
      have hq1 : SqT K (upd H3 p1 (.tup [.str y, u])) p1 [.str y, u] := SqT.of upd_same
      generalize upd H3 p1 (.tup [.str y, u]) = H4 at s4 hq1
      refine ⟨.str y, rfl, .ref tp, rfl, small1000 (Nat.le_of_ble_eq_true rfl), fun p2 hp2 => ?_⟩
      have s5 : Sm H4 (upd H4 p2 (.tup [.str y, .ref tp])) := Sm.new hp2
      have hq2 : SqT K (upd H4 p2 (.tup [.str y, .ref tp])) p2 [.str y, .ref tp] := SqT.of upd_same
      generalize upd H4 p2 (.tup [.str y, .ref tp]) = H5 at s5 hq2
      have t5 := sx.trans (s2.trans (s3.trans (s4.trans s5)))
      refine ⟨.ref p1, .ref p2, rfl, same_two78 (s5.sqT hq1) hq2 (.leaf (.inl (.str _))) (TT.eqY (n := 3) (hu.same (s4.trans s5)) (hT.same t5) hW (by omega)), fun H6 s6 => ⟨_, rfl, ?_⟩⟩
      have t6 := t5.trans s6
      refine ⟨.ref tp, rfl, allOk, _, _, rfl, (hT.same t6).da, e1, e2, e3, _, rfl, rfl, _, rfl, iteNS rfl ?_⟩
      exact ⟨_, rfl, t6⟩
    · obtain ⟨x3, rfl, sx⟩ := hI
      exact q _ sx
def sp_treer78 (K : PySem.W.Frag) : Sp := fun vs H Q _ => ∃ (tv : V) (t : List (List Int)), vs = [tv] ∧ TT K H tv t ∧ WT t ∧ Ultra t ∧ 1 ≤ t.length ∧ t.length ≤ 12 ∧ ∀ H', Sm H H' → Q (.bl true) H'
set_option maxHeartbeats 8000000 in
theorem ok_treer78 {f f1 f2 f3 f4 : Addr} {fd fd1 fd2 fd3 fd4 : FuncData} {k : Nat} (F : Fun K "_law_tree_right" "_law_tree_right" s_L_tree_right f fd) (D_L_parts : Df K mg "_law_parts" s_L_parts f1 fd1 ["_law_table_here", "_law_items"]) (D_L_tree_text : Df K mg "_law_tree_text" s_L_tree_text f2 fd2 ["_law_tree"]) (D_L_equal : Df K mg "_law_equal" s_L_equal f3 fd3 ["_law_one_here", "_law_other"]) (D_format_tree : Df K mg "format_tree" s_format_tree f4 fd4 ["tree"])
    (G_L_parts : FnOk P w K mg base CX0 k f1 fd1 ["_law_table_here", "_law_items"] (sp_parts78 K 11)) (G_L_tree_text : FnOk P w K mg base CX0 k f2 fd2 ["_law_tree"] (sp_tx78 K 11)) (G_L_equal : FnOk P w K mg base CX0 k f3 fd3 ["_law_one_here", "_law_other"] (sp_equalY K 7)) (G_format_tree : FnOk P w K mg base CX0 k f4 fd4 ["tree"] (sp_tx78 K 11)) (B : Bi mg) :
    GOk P w K mg base (k + 1) f fd ["_law_known"] (sp_treer78 K) := by
  refine fun_G F sc_L_tree_right (fun vs H Q E h => ?_) (fun cdv A outer s0 H vs Q E hg hr h => ?_)
  · obtain ⟨tv, t, rfl, _⟩ := h
    rfl
  · obtain ⟨tv, t, rfl, hT, hW, hU, h1, h12, q⟩ := h
    have nd := sc_L_tree_right.nd
    refine ⟨_, (pss_cons (ps_set (i := 1) nd rfl (.inl rfl) (pe_cl D_L_parts G_L_parts hr (pa_cons (pv 0) (pa_cons (pe_listRg rfl (by rfl) B.list (prg_1 (by rfl) B.range (pe_len B (pv 0)))) pa_nil))))
      (pss_cons (ps_par (i := 2) (j := 3) rfl nd rfl rfl (by decide) rfl rfl (pa_cons (pe_callB (cr_reprZ hg hr) (by rfl) B.repr (by decide +kernel) (pa_cons (pv 1) pa_nil)) (pa_cons (pe_cl D_L_tree_text G_L_tree_text hr (pa_cons (pv 1) pa_nil)) pa_nil)) rfl)
      (pss_one (ps_ret (pe_and (pe_cl D_L_equal G_L_equal hr (pa_cons (pe_tup (pa_cons (pe_cl D_format_tree G_format_tree hr (pa_cons (pv 1) pa_nil)) (pa_cons (pe_cl D_format_tree G_format_tree hr (pa_cons (pv 1) pa_nil)) pa_nil))) (pa_cons (pe_tup (pa_cons (pv 3) (pa_cons (pv 3) pa_nil))) pa_nil))) (pe_one (pe_cmpR op_eq (pe_callB (cr_reprZ hg hr) (by rfl) B.repr (by decide +kernel) (pa_cons (pv 1) pa_nil)) (pv 2) (nomark _)))))))), ?_⟩
    obtain ⟨tp, rs, rfl, htp, hR⟩ := id hT
    have hrl : rs.length = t.length := hR.1
    refine ⟨.ref tp, rfl, .ref tp, rfl, tp, rs, rfl, .inr htp, _, rfl, RgOk.of_le (by decide) (by omega) (by decide) (by omega), fun l hln => ?_⟩
    rw [show rgV 0 (rs.length : Int) = nI (List.range t.length) by rw [hrl]; exact rgN _]
    have s1 := Sm.new (o := .lst (nI (List.range t.length))) hln
    refine ⟨.ref tp, t, l, List.range t.length, rfl, hT.same s1, hW, hU, by omega, upd_same, List.pairwise_lt_range, by rw [List.length_range]; omega, by rw [List.length_range]; omega, fun x hx => List.mem_range.mp hx, fun H2 v s2 hv => ?_⟩
    refine nx_mk ?_
    have s02 := s1.trans s2
    obtain ⟨x, hxD, hxS, hxw⟩ := hv.dat
    obtain ⟨dd, hd⟩ := trx_of78 hv
    rw [List.length_range] at hxw hd
    obtain ⟨e1, e2, e3⟩ := showZ (n := 11) hxS (by omega)
    refine ⟨v, rfl, noL, v, x, rfl, hxD, e1, e2, e3, ?_⟩
    refine ⟨v, rfl, v, t.length, dd, rfl, hd, by omega, fun H3 z s3 hz => ?_⟩
    refine ⟨_, _, rfl, ?_⟩
    refine nx_mk ?_
    have hd3 := hd.same s3
    refine ⟨v, rfl, v, t.length, dd, rfl, hd3, by omega, fun H4 y s4 hy => ?_⟩
    obtain rfl : y = z := TL.ext_tl (hy.trans hz.symm)
    have hd4 := hd3.same s4
    refine ⟨v, rfl, v, t.length, dd, rfl, hd4, by omega, fun H5 y' s5 hy' => ?_⟩
    obtain rfl : y' = y := TL.ext_tl (hy'.trans hz.symm)
    refine ⟨small1000 (Nat.le_of_ble_eq_true rfl), fun p1 hp1 => ?_⟩
    have s6 : Sm H5 (upd H5 p1 (.tup [.str y', .str y'])) := Sm.new hp1
    have hq1 : SqT K (upd H5 p1 (.tup [.str y', .str y'])) p1 [.str y', .str y'] := SqT.of upd_same
    generalize upd H5 p1 (.tup [.str y', .str y']) = H6 at s6 hq1
    refine ⟨.str y', rfl, .str y', rfl, small1000 (Nat.le_of_ble_eq_true rfl), fun p2 hp2 => ?_⟩
    have s7 : Sm H6 (upd H6 p2 (.tup [.str y', .str y'])) := Sm.new hp2
    have hq2 : SqT K (upd H6 p2 (.tup [.str y', .str y'])) p2 [.str y', .str y'] := SqT.of upd_same
    generalize upd H6 p2 (.tup [.str y', .str y']) = H7 at s7 hq2
    have t7 := s3.trans (s4.trans (s5.trans (s6.trans s7)))
    refine ⟨.ref p1, .ref p2, rfl, same_two78 (s7.sqT hq1) hq2 (.leaf (.inl (.str _))) (.leaf (.inl (.str _))), fun H8 s8 => ⟨_, rfl, ?_⟩⟩
    have t8 := t7.trans s8
    refine ⟨v, rfl, noL, v, x, rfl, hxD.same t8, e1, e2, e3, _, rfl, rfl, ?_⟩
    rw [decide_eq_true rfl]
    exact q _ (s02.trans t8)
end
section
variable {P : Program} {w : World} {K : PySem.W.Frag} {mg : Str → Option Value} {base : Heap}
/-! ### the beginning of a drawing -/
def sp_draws (K : PySem.W.Frag) : Sp := fun vs H Q _ => ∃ (a : Addr) (ns : List Int), vs = [.ref a] ∧ SqL K H a (ns.map V.int) ∧ ns.length ≤ 63 ∧ ∀ (H' : Hp) (d c r : Addr), Sm H H' → Dr H' d c r 0 → H d = none → H c = none → H r = none → Q (.ref d) H'
theorem ok_draws {f : Addr} {fd : FuncData} {k : Nat} (F : Fun K "_law_draws" "_law_draws" s_L_draws f fd) (B : Bi mg) : FnOk P w K mg base CX0 (k + 1) f fd ["_law_script"] (sp_draws K) := by
  refine F.ok sc_L_draws (fun vs H Q E h => ?_) (fun cdv A outer s H vs Q E hr h => ?_)
  · obtain ⟨a, ns, rfl, _⟩ := h
    rfl
  · obtain ⟨a, ns, rfl, hS, h63, q⟩ := h
    have nd := sc_L_draws.nd
    refine ⟨_, pss_cons (ps_set (i := 1) nd rfl (.inl rfl) (pe_op op_cat (pe_callTy call_list_of (by rfl) B.list (by decide +kernel) (pa_cons (pe_slice sl_list (pv 0) po_none (po_some pe_int)) pa_nil))
        (pe_op op_rep (pe_lst (pa_cons pe_int pa_nil)) (pe_callTy call_int1 (by rfl) B.int (by decide +kernel) (pa_cons (pe_cmpR op_eq (pe_len B (pv 0)) pe_int (nomark _)) pa_nil)))))
      (pss_one (ps_ret (pe_lst (pa_cons (pv 1) (pa_cons pe_int (pa_cons
        (pe_lc (own := [("_law_cell", 2)]) (g := gName 2) (tt := tYes) rfl nd (pi_list (pv 1)) (blkOk_by (N := N_L_draws) (sc := defScope s_L_draws) (by decide +kernel))
          (fun _ _ _ _ _ => pg_name (i := 2) nd rfl (.inl rfl)) (fun _ _ _ _ _ => pts_nil)
          (fun _ _ _ _ _ => pe_op op_mul (pv 2) (pe_callTy call_int1 (by rfl) B.int (by decide +kernel) (pa_cons (pe_cmpR op_ge (pv 2) (pe_op op_pow pe_int pe_int) (nomark _)) pa_nil)))) pa_nil)))))), ?_⟩
    refine ⟨.ref a, rfl, 63, rfl, a, _, rfl, hS, fun p1 hp1 => ?_⟩
    have e63 : cutV (ns.map V.int) none (some 63) = ns.map V.int := by
      rw [show (63 : Int) = ((63 : Nat) : Int) from rfl, cut_to]
      exact List.take_of_length_le (by rw [List.length_map]; exact h63)
    rw [e63]
    have s1 : Sm H (upd H p1 (.lst (ns.map V.int))) := Sm.new hp1
    refine ⟨p1, _, rfl, .inl (SqL.of upd_same), fun p2 hp2 => ?_⟩
    have s2 := s1.trans (Sm.new (o := .lst (ns.map V.int)) hp2)
    refine ⟨(by show 1 ≤ sizeLine; decide), fun p3 hp3 => ?_⟩
    have s3 := s2.trans (Sm.new (o := .lst [.int 0]) hp3)
    refine ⟨.ref a, rfl, a, _, rfl, .inl (s3.sqL hS), rfl, .inr ⟨_, rfl, ?_⟩⟩
    obtain ⟨kk, ek, ekk⟩ : ∃ kk : Nat, (if decide (V.int (((ns.map V.int).length : Nat) : Int) = V.int 0) = true then (1 : Int) else 0) = (kk : Int) ∧ (kk = if ns.length = 0 then 1 else 0) := by
      by_cases z : ns.length = 0
      · exact ⟨1, by rw [List.length_map, z]; rfl, by rw [if_pos z]⟩
      · refine ⟨0, ?_, by rw [if_neg z]⟩
        rw [List.length_map, decide_eq_false (fun e => z (by have := V.int.inj e; omega))]
        rfl
    rw [ek]
    have kk1 : kk ≤ 1 := by rw [ekk]; split <;> omega
    refine ⟨p3, _, _, rfl, rfl, upd_same, by omega, by omega, ?_, fun p4 hp4 => ?_⟩
    · show 1 * ((kk : Int).toNat) ≤ sizeLine
      exact Nat.le_of_lt (small1000 (by omega))
    obtain ⟨zs, ez, lz⟩ : ∃ zs : List Int, (List.replicate (kk : Int).toNat [V.int 0]).flatten = zs.map V.int ∧ zs.length = kk := by
      match kk, kk1 with
      | 0, _ => exact ⟨[], rfl, rfl⟩
      | 1, _ => exact ⟨[0], rfl, rfl⟩
    rw [ez]
    have s4 := s3.trans (Sm.new (o := .lst (zs.map V.int)) hp4)
    have h24 : (upd (upd (upd (upd H p1 (.lst (ns.map V.int))) p2 (.lst (ns.map V.int))) p3 (.lst [.int 0])) p4 (.lst (zs.map V.int))) p2 = some (.lst (ns.map V.int)) :=
      Sm.new hp4 _ _ (Sm.new hp3 _ _ upd_same)
    refine ⟨p2, p4, _, _, rfl, rfl, h24, upd_same, ?_, fun c hc => ?_⟩
    · rw [List.length_map, List.length_map]
      exact Nat.le_of_lt (small1000 (by omega))
    rw [← List.map_append]
    obtain ⟨cells, hcells⟩ : ∃ cells, cells = ns ++ zs := ⟨_, rfl⟩
    rw [← hcells]
    have lc : 0 < cells.length ∧ cells.length ≤ 64 := by
      rw [hcells, List.length_append, lz, ekk]
      split <;> omega
    have cH : H c = none := s4.free hc
    have s5 := s4.trans (Sm.new (o := .lst (cells.map V.int)) hc)
    have c5 : (upd (upd (upd (upd (upd H p1 (.lst (ns.map V.int))) p2 (.lst (ns.map V.int))) p3 (.lst [.int 0])) p4 (.lst (zs.map V.int))) c (.lst (cells.map V.int))) c = some (.lst (cells.map V.int)) := upd_same
    generalize upd (upd (upd (upd (upd H p1 (.lst (ns.map V.int))) p2 (.lst (ns.map V.int))) p3 (.lst [.int 0])) p4 (.lst (zs.map V.int))) c (.lst (cells.map V.int)) = H5 at s5 c5
    -- the three
    refine ⟨.ref c, rfl, .ref c, rfl, c, rfl, ⟨_, SqL.of c5⟩, fun r hr0 => lc_list (xs := cells.map V.int) (fun i Hx => ∃ rs : List Int, Hx r = some (.lst (rs.map V.int)) ∧ rs.length = i ∧ (∀ x ∈ rs, 0 ≤ x) ∧ Sm H5 Hx) ⟨[], upd_same, rfl, fun x hx => by simp at hx, Sm.new hr0⟩ (fun i Hx hi hP => ?_) (fun i v Hx hv hP => ?_) (fun Hx hP => ?_)⟩
    · obtain ⟨_, _, _, _, h4⟩ := hP
      exact SqL.of (h4 _ _ c5)
    · obtain ⟨rs, h1, h2, h3, h4⟩ := hP
      have hi : i < cells.length := by
        have := (List.getElem?_eq_some_iff.mp hv).1
        rwa [List.length_map] at this
      obtain ⟨x, rfl⟩ : ∃ x : Int, v = .int x := by
        rw [List.getElem?_map, List.getElem?_eq_getElem hi] at hv
        exact ⟨_, (Option.some.inj hv).symm⟩
      refine ⟨rfl, .int x, rfl, .int x, rfl, _, _, rfl, rfl, ⟨by decide, by decide, by decide⟩, _, _, rfl, rfl, .inr ⟨_, rfl, ?_⟩⟩
      obtain ⟨b, hb, hb2⟩ : ∃ b : Int, (if decide ((10 : Int) ^ (18 : Int).toNat ≤ x) = true then (1 : Int) else 0) = b ∧ ((b = 1 ∧ (10 : Int) ^ (18 : Int).toNat ≤ x) ∨ b = 0) := by
        by_cases z : (10 : Int) ^ (18 : Int).toNat ≤ x
        · exact ⟨1, by rw [decide_eq_true z]; rfl, .inl ⟨rfl, z⟩⟩
        · exact ⟨0, by rw [decide_eq_false z]; rfl, .inr rfl⟩
      rw [hb]
      refine ⟨_, _, rfl, rfl, .inr ⟨?_, ?_⟩, _, h1, by rw [List.length_map]; exact small1000 (by omega), rs ++ [x * b], ?_, by rw [List.length_append, h2]; rfl, ?_, ?_⟩
      · rcases hb2 with ⟨z, _⟩ | z <;> rw [z] <;> decide
      · rcases hb2 with ⟨z, _⟩ | z <;> rw [z] <;> decide
      · rw [upd_same, List.map_append]; rfl
      · intro y hy
        rcases List.mem_append.mp hy with hy | hy
        · exact h3 y hy
        · rw [List.mem_singleton.mp hy]
          rcases hb2 with ⟨z, zx⟩ | z
          · rw [z, Int.mul_one]
            exact Int.le_trans (by decide) zx
          · rw [z, Int.mul_zero]
            exact Int.le_refl 0
      · intro e o he
        rw [upd_ne (ne_of_none he hr0)]
        exact h4 e o he
    · obtain ⟨rs, h1, h2, h3, h4⟩ := hP
      rw [List.length_map] at h2
      refine ⟨(by show 3 ≤ sizeLine; decide), fun d hd0 => ?_⟩
      have c6 := h4 _ _ c5
      have s6 := s5.trans h4
      refine q _ d c r (s6.trans (Sm.new hd0)) ⟨⟨cells, rs, 0, upd_same, Sm.new hd0 _ _ c6, Sm.new hd0 _ _ h1, h2.symm, lc.1, lc.2, Nat.le_refl _, h3⟩, (ne_of_none c6 hd0).symm, (ne_of_none h1 hd0).symm, ne_of_none c5 hr0⟩ (s6.free hd0) cH (s5.free hr0)
end
section
variable {P : Program} {w : World} {K : PySem.W.Frag} {mg : Str → Option Value} {base : Heap}
/-! ### the law -/
def Tb78 (K : PySem.W.Frag) (H : Hp) (v : V) (t : List (List Int)) : Prop := TT K H v t ∧ WT t ∧ 1 ≤ t.length ∧ t.length ≤ 12
structure LawDefs (K : PySem.W.Frag) (mg : Str → Option Value) : Prop where
  D : DrawDefs K mg
  gD : ∃ t, mg "DIGITS" = some (.int 13 t)
  gI : ∃ t, mg "ITEMS" = some (.int 12 t)
  gL : ∃ t, mg "LEVEL" = some (.int 1000000000000 t)
  draws : ∃ f fd, Df K mg "_law_draws" s_L_draws f fd ["_law_script"]
  table : ∃ f fd, Df K mg "_law_table" s_L_table f fd ["_law_drawn", "_law_count_here"]
  equal : ∃ f fd, Df K mg "_law_equal" s_L_equal f fd ["_law_one_here", "_law_other"]
  parts : ∃ f fd, Df K mg "_law_parts" s_L_parts f fd ["_law_table_here", "_law_items"]
  ttext : ∃ f fd, Df K mg "_law_tree_text" s_L_tree_text f fd ["_law_tree"]
  tabt : ∃ f fd, Df K mg "_law_table_text" s_L_table_text f fd ["_law_table_here"]
  ladder : ∃ f fd, Df K mg "_law_ladder" s_L_ladder f fd ["_law_drawn", "_law_count_here"]
  tabr : ∃ f fd, Df K mg "_law_table_right" s_L_table_right f fd ["_law_table_here"]
  treer : ∃ f fd, Df K mg "_law_tree_right" s_L_tree_right f fd ["_law_known"]
  whole : ∃ f fd, Df K mg "is_whole" s_is_whole f fd ["value"]
  level : ∃ f fd, Df K mg "is_level" s_is_level f fd ["value"]
  num : ∃ f fd, Df K mg "number_of" s_number_of f fd ["word"]
  join : ∃ f fd, Df K mg "joined" s_joined f fd ["numbers"]
  ftab : ∃ f fd, Df K mg "format_table" s_format_table f fd ["table"]
  ftree : ∃ f fd, Df K mg "format_tree" s_format_tree f fd ["tree"]
  cnt : ∃ f fd, Df K mg "count_in" s_count_in f fd ["line"]
  row : ∃ f fd, Df K mg "row_in" s_row_in f fd ["line", "size"]
  plin : ∃ f fd, Df K mg "parse_lines" s_parse_lines f fd ["lines"]
  ptab : ∃ f fd, Df K mg "parse_table" s_parse_table f fd ["value"]
def sp_law (K : PySem.W.Frag) : Sp := fun vs H Q _ => ∃ (a : Addr) (ns : List Int), vs = [.ref a] ∧ SqL K H a (ns.map V.int) ∧ ns.length ≤ 63 ∧ ∀ H', Q (.bl true) H'
set_option maxHeartbeats 8000000 in
theorem ok_law {f : Addr} {fd : FuncData} (F : Fun K "law" "law" s_law f fd) (T : LawDefs K mg) : GOk P w K mg base 15 f fd ["_law_script"] (sp_law K) := by
  have B := T.D.B
  obtain ⟨fN, fdN, D_L_next⟩ := T.D.next
  obtain ⟨fO, fdO, D_L_one⟩ := T.D.one
  obtain ⟨f2, fd2, D_L_count⟩ := T.D.count
  obtain ⟨fG, fdG, D_L_grades⟩ := T.D.grades
  obtain ⟨fL, fdL, D_L_level⟩ := T.D.level
  obtain ⟨fE, fdE, D_L_nested⟩ := T.D.nested
  obtain ⟨f1, fd1, D_L_draws⟩ := T.draws
  obtain ⟨f3, fd3, D_L_table⟩ := T.table
  obtain ⟨f4, fd4, D_L_equal⟩ := T.equal
  obtain ⟨f5, fd5, D_L_parts⟩ := T.parts
  obtain ⟨f6, fd6, D_L_tree_text⟩ := T.ttext
  obtain ⟨f7, fd7, D_L_table_text⟩ := T.tabt
  obtain ⟨f8, fd8, D_L_ladder⟩ := T.ladder
  obtain ⟨f9, fd9, D_L_table_right⟩ := T.tabr
  obtain ⟨f10, fd10, D_L_tree_right⟩ := T.treer
  obtain ⟨f11, fd11, D_is_whole⟩ := T.whole
  obtain ⟨f12, fd12, D_is_level⟩ := T.level
  obtain ⟨f13, fd13, D_number_of⟩ := T.num
  obtain ⟨f14, fd14, D_joined⟩ := T.join
  obtain ⟨f15, fd15, D_format_table⟩ := T.ftab
  obtain ⟨f16, fd16, D_format_tree⟩ := T.ftree
  obtain ⟨f17, fd17, D_count_in⟩ := T.cnt
  obtain ⟨f18, fd18, D_row_in⟩ := T.row
  obtain ⟨f19, fd19, D_parse_lines⟩ := T.plin
  obtain ⟨f20, fd20, D_parse_table⟩ := T.ptab
  have G_L_draws : FnOk P w K mg base CX0 14 f1 fd1 ["_law_script"] (sp_draws K) := ok_draws D_L_draws.F B
  have G_L_count : FnOk P w K mg base CX0 14 f2 fd2 ["_law_drawn", "_law_most"] sp_count := (ok_count D_L_count.F D_L_next B).mono (by decide)
  have G_L_grades : FnOk P w K mg base CX0 14 fG fdG ["_law_drawn"] sp_grades := (ok_grades D_L_grades.F D_L_next B).mono (by decide)
  have G_L_nested : FnOk P w K mg base CX0 14 fE fdE ["_law_drawn", "_law_count_here", "_law_grades_here"] (sp_nestedU K) := (ok_nestedU D_L_nested.F D_L_next D_L_one D_L_level B).mono (by decide)
  have G_L_table : FnOk P w K mg base CX0 14 f3 fd3 ["_law_drawn", "_law_count_here"] (sp_table K) := (ok_table D_L_table.F T.D).mono (by decide)
  have G_L_equal : FnOk P w K mg base CX0 8 f4 fd4 ["_law_one_here", "_law_other"] (sp_equalY K 7) := ok_equalY D_L_equal B 7
  have G_L_ladder : FnOk P w K mg base CX0 14 f8 fd8 ["_law_drawn", "_law_count_here"] (sp_ladder78 K) := ok_ladder78 (k := 12) D_L_ladder.F D_L_next B
  have G_format_table : FnOk P w K mg base CX0 14 f15 fd15 ["table"] (sp_ftab78 K) := ok_ftab78 (k := 12) D_format_table.F D_joined B
  have G_ftab8 : FnOk P w K mg base CX0 8 f15 fd15 ["table"] (sp_ftab78 K) := ok_ftab78 (k := 6) D_format_table.F D_joined B
  have G_ltab8 : FnOk P w K mg base CX0 8 f7 fd7 ["_law_table_here"] (sp_ftab78 K) := ok_ltab78 (k := 7) D_L_table_text.F B
  have G_ptab8 : FnOk P w K mg base CX0 8 f20 fd20 ["value"] (sp_ptab78 K) := (ok_ptab78 D_parse_table.F D_parse_lines D_count_in D_row_in D_number_of D_is_level D_is_whole T.gD T.gI T.gL B).mono (by decide)
  have G_tr9 : GOk P w K mg base 9 f9 fd9 ["_law_table_here"] (sp_tabr78 K) := ok_tabr78 D_L_table_right.F D_L_table_text D_L_equal D_format_table D_parse_table G_ltab8 G_L_equal G_ftab8 G_ptab8 B
  have G_L_table_right : GOk P w K mg base 14 f9 fd9 ["_law_table_here"] (sp_tabr78 K) := G_tr9.mono (by decide)
  have G_L_tree_right : GOk P w K mg base 14 f10 fd10 ["_law_known"] (sp_treer78 K) := ok_treer78 (k := 13) D_L_tree_right.F D_L_parts D_L_tree_text D_L_equal D_format_tree (ok_parts78 D_L_parts D_L_level B 11) ((ok_ltree78 D_L_tree_text B 11).mono (by decide)) (G_L_equal.mono (by decide)) ((ok_ftree78 D_format_tree B 11).mono (by decide)) B
  refine fun_G F sc_law (fun vs H Q E h => ?_) (fun cdv A outer s H vs Q E hg hr h => ?_)
  · obtain ⟨a, ns, rfl, _⟩ := h
    rfl
  · obtain ⟨a, ns0, rfl, hS, h63, q⟩ := h
    have nd := sc_law.nd
    refine ⟨_, (pss_cons (ps_set (i := 1) nd rfl (.inl rfl) (pe_cl D_L_draws G_L_draws hr (pa_cons (pv 0) pa_nil)))
      (pss_cons (ps_set (i := 2) nd rfl (.inl rfl) (pe_lst pa_nil))
      (pss_cons (ps_for PassesOwn.never rfl (pi_range1 rfl B.range (pa_cons pe_int pa_nil)) (pg_name (i := 3) nd rfl (.inl rfl))
      (pss_cons (ps_set (i := 4) nd rfl (.inl rfl) (pe_cl D_L_count G_L_count hr (pa_cons (pv 1) (pa_cons pe_int pa_nil))))
      (pss_cons (ps_par (i := 5) (j := 6) rfl nd rfl rfl (by decide) rfl rfl (pa_cons (pe_cl D_L_table G_L_table hr (pa_cons (pv 1) (pa_cons (pv 4) pa_nil))) (pa_cons (pe_cl D_L_nested G_L_nested hr (pa_cons (pv 1) (pa_cons (pv 4) (pa_cons (pe_cl D_L_grades G_L_grades hr (pa_cons (pv 1) pa_nil)) pa_nil)))) pa_nil)) rfl)
      (pss_cons (ps_if (PW.pt (pw_or (pt_not (pt_val (pe_clG78 D_L_table_right G_L_table_right hg hr (pa_cons (pv 5) pa_nil)))) (pw_or1 (pt_not (pt_val (pe_clG78 D_L_table_right G_L_table_right hg hr (pa_cons (pv 6) pa_nil)))))))
      (pss_one (ps_ret pe_bl))
      pss_nil)
      (pss_cons (ps_if (PW.pt (pw_or (pt_not (pt_val (pe_clG78 D_L_tree_right G_L_tree_right hg hr (pa_cons (pv 6) pa_nil)))) (pw_or1 (pt_not (pt_val (pe_clG78 D_L_tree_right G_L_tree_right hg hr (pa_cons (pe_cl D_L_ladder G_L_ladder hr (pa_cons (pv 1) (pa_cons (pv 4) pa_nil))) pa_nil)))))))
      (pss_one (ps_ret pe_bl))
      pss_nil)
      (pss_one (ps_set (i := 2) nd rfl (.inl rfl) (pe_op op_cat (pv 2) (pe_lst (pa_cons (pv 5) (pa_cons (pv 6) pa_nil)))))))))))
      (pss_cons (ps_for PassesOwn.never rfl (pi_list (pv 2)) (pg_name (i := 7) nd rfl (.inr rfl))
      (pss_one (ps_if (pt_cmpR (op_neNilL hr.units) (pe_lc (own := [("_law_other", 8)]) (g := gName 8) (tt := tTest (tOp (fun x y H Q => scal x y = true ∧ Q (.bl (!decide (x = y))) H) (tOp (fun x y H Q => scal x y = true ∧ Q (.bl (decide (x = y))) H) (tCall (sp_ftab78 K) [] E0 (tCons (tVar 7) tNil)) (tCall (sp_ftab78 K) [] E0 (tCons (tVar 8) tNil))) (tOp (rEqD K) (tVar 7) (tVar 8)))) (te := tC (.int 1)) rfl nd (pi_list (pv 2)) (blkOk_by (N := N_law) (sc := defScope s_law) (by decide +kernel))
            (fun _ _ _ _ _ => pg_name (i := 8) nd rfl (.inl rfl)) (fun _ _ _ _ _ => pts_one (pt_cmpR op_ne (pe_cmpR op_eq (pe_cl D_format_table G_format_table hr (pa_cons (pv 7) pa_nil)) (pe_cl D_format_table G_format_table hr (pa_cons (pv 8) pa_nil)) (nomark _)) (pe_cmpR (op_eqD hr.units) (pv 7) (pv 8) (nomark _)) (nomark _))) (fun _ _ _ _ _ => pe_int)) (pe_lst pa_nil) (nomark _))
      (pss_one (ps_ret pe_bl))
      pss_nil)))
      (pss_one (ps_ret pe_bl)))))), ?_⟩
    refine ⟨.ref a, rfl, a, ns0, rfl, hS, h63, fun H1 d c r s1 Dr1 _ _ _ => ?_⟩
    refine nx_mk ?_
    refine ⟨Nat.zero_le _, fun so hso => ?_⟩
    have nso := Dr1.ne hso
    have D2 := Dr1.new (o := .lst []) hso
    have hso2 : (upd H1 so (.lst [])) so = some (.lst []) := upd_same
    generalize upd H1 so (.lst []) = H2 at D2 hso2
    refine nx_mk ?_
    refine ⟨6, rfl, by decide, by decide, for_range (n := 6) (fun i σ Hx => ∃ x3 x4 x5 x6 so vs ts, σ = [some (.ref a), some (.ref d), some (.ref so), x3, x4, x5, x6, none, none] ∧ Hx so = some (.lst vs) ∧ so ≠ d ∧ so ≠ r ∧ Als (Tb78 K Hx) vs ts ∧ vs.length = 2 * i ∧ Dr Hx d c r (1000 * i)) ⟨none, none, none, none, so, [], [], rfl, hso2, nso.1, nso.2.2, Als.nil, rfl, D2⟩ (fun i σ Hx hi hI => ?_) (fun σ Hx hI => ?_)⟩
    · obtain ⟨x3, x4, x5, x6, so, vs, ts, rfl, hs, n1, n2, hA, vl, hD⟩ := hI
      rw [Int.zero_add]
      show _
      refine ⟨.ref d, rfl, d, c, r, _, 12, rfl, hD, by omega, by decide, by decide, fun H3 cnt l3 m3 D3 kp3 => ?_⟩
      refine nx_mk ?_
      refine ⟨.ref d, rfl, .int (cnt : Int), rfl, d, c, r, _, cnt, rfl, D3, by omega, by omega, by omega, fun H4 tv t hT4 hW htl D4 kp4 => ?_⟩
      refine ⟨.ref d, rfl, .int (cnt : Int), rfl, .ref d, rfl, d, c, r, _, rfl, D4, by omega, fun H5 g gs hg hgH hG D5 kp5 gd gc gr => ?_⟩
      refine ⟨d, c, r, _, cnt, g, gs, rfl, D5, by omega, l3, by omega, SqL.of hgH, gd, gr, hG, fun H6 uv u hT6 hW6 hU6 hul D6 kp6 => ?_⟩
      refine ⟨_, _, rfl, ?_⟩
      refine nx_mk ?_
      have k46 := kp5.trans kp6
      have hT := hT4.kp D4 k46
      refine ⟨tv, rfl, tv, t, rfl, hT, hW, by omega, by omega, fun H7 s7 => ⟨_, rfl, ?_⟩⟩
      refine ⟨uv, rfl, uv, u, rfl, hT6.same s7, hW6, by omega, by omega, fun H8 s8 => ⟨_, rfl, ?_⟩⟩
      show _
      refine nx_mk ?_
      have s68 := s7.trans s8
      refine ⟨uv, rfl, uv, u, rfl, hT6.same s68, hW6, hU6, by omega, by omega, fun H9 s9 => ⟨_, rfl, ?_⟩⟩
      have s69 := s68.trans s9
      have D9 := D6.same s69
      refine ⟨.ref d, rfl, .int (cnt : Int), rfl, d, c, r, _, cnt, rfl, D9, by omega, by omega, by omega, fun Ha lv lt hTl hWl hUl hll Da' ka => ?_⟩
      refine ⟨lv, lt, rfl, hTl, hWl, hUl, by omega, by omega, fun Hb sb => ⟨_, rfl, ?_⟩⟩
      show _
      refine nx_mk ?_
      have Db := Da'.same sb
      have kall : Kp d r Hx Hb := ((((kp3.trans kp4).trans k46).trans s69.kp).trans ka).trans sb.kp
      have k6b : Kp d r H6 Hb := (s69.kp.trans ka).trans sb.kp
      have hsb := kall _ _ hs n1 n2
      have hTb := hT.kp D6 k6b
      have hUb := hT6.kp D6 k6b
      have hAb : Als (Tb78 K Hb) vs ts := Als.mono hA fun _ _ z => ⟨z.1.kp hD kall, z.2⟩
      refine ⟨.ref so, rfl, tv, rfl, uv, rfl, small1000 (Nat.le_of_ble_eq_true rfl), fun l2 hl2 => ?_⟩
      have sc : Sm Hb (upd Hb l2 (.lst [tv, uv])) := Sm.new hl2
      have hl22 : (upd Hb l2 (.lst [tv, uv])) l2 = some (.lst [tv, uv]) := upd_same
      generalize upd Hb l2 (.lst [tv, uv]) = Hc at sc hl22
      refine ⟨so, l2, _, _, rfl, rfl, sc _ _ hsb, hl22, Nat.le_trans (show vs.length + 2 ≤ 1000 by omega) (by decide), fun so' hso' => ?_⟩
      have sd : Sm Hc (upd Hc so' (.lst (vs ++ [tv, uv]))) := Sm.new hso'
      have Dc := Db.same sc
      have nn := Dc.ne hso'
      have scd := sc.trans sd
      refine ⟨_, _, _, _, so', vs ++ [tv, uv], ts ++ [t, u], rfl, upd_same, nn.1, nn.2.2, ?_, by rw [List.length_append, vl]; show 2 * i + 2 = _; omega, (Dc.same sd).mono (by omega)⟩
      have two : Als (Tb78 K (upd Hc so' (.lst (vs ++ [tv, uv])))) [tv, uv] [t, u] := (Als.one (show Tb78 K _ tv t from ⟨hTb.same scd, hW, by omega, by omega⟩)).append (Als.one (show Tb78 K _ uv u from ⟨hUb.same scd, hW6, by omega, by omega⟩))
      exact (Als.mono hAb fun _ _ z => ⟨z.1.same scd, z.2⟩).append two
    obtain ⟨x3, x4, x5, x6, so, vs, ts, rfl, hs, n1, n2, hA, vl, hD⟩ := hI
    show _
    refine ⟨.ref so, rfl, so, rfl, ⟨_, SqL.of hs⟩, for_list (xs := vs) (fun j σ Hy => ∃ x7 x8, σ = [some (.ref a), some (.ref d), some (.ref so), x3, x4, x5, x6, x7, x8] ∧ Sm Hx Hy) ⟨none, none, rfl, Sm.refl _⟩ (fun j σ Hy _ hI => ?_) (fun j v σ Hy hv hI => ?_) (fun σ Hy hI => ?_)⟩
    · obtain ⟨_, _, _, sy⟩ := hI
      exact SqL.of (sy _ _ hs)
    · obtain ⟨x7, x8, rfl, sy⟩ := hI
      obtain ⟨t, ht, hTt, hWt, ht1, ht12⟩ := Als.at hA hv
      have hsy := sy _ _ hs
      show _
      refine ⟨.ref so, rfl, so, rfl, ⟨_, SqL.of hsy⟩, fun Dl hDl => lc_list (xs := vs) (fun i Hz => Hz Dl = some (.lst []) ∧ Sm Hy Hz) ⟨upd_same, Sm.new hDl⟩ (fun i Hz _ hQ => SqL.of (hQ.2 _ _ hsy)) (fun i u Hz hu hQ => ?_) (fun Hz hQ => ?_)⟩
      · obtain ⟨w1, w2⟩ := hQ
        obtain ⟨ut, hut, hTu, hWu, hu1, hu12⟩ := Als.at hA hu
        have sz := sy.trans w2
        refine ⟨rfl, v, rfl, v, t, rfl, hTt.same sz, hWt, ht1, by omega, fun H5 y s5 hy => ?_⟩
        refine ⟨u, rfl, u, ut, rfl, hTu.same (sz.trans s5), hWu, hu1, by omega, fun H6 y' s6 hy' => ?_⟩
        have s56 := s5.trans s6
        have st := sz.trans s56
        refine ⟨rfl, v, rfl, u, rfl, tabD t, tabD ut, (hTt.same st).dp, (hTu.same st).dp, lay_tab _, lay_tab _, ?_⟩
        rw [eqv_tabs]
        have e1 : decide (V.str y = V.str y') = decide (t = ut) := decide_eq_decide.mpr ⟨fun z => ctab_inj hWt hWu ht1 hu1 (by rw [← hy, ← hy', V.str.inj z]), fun z => by subst z; rw [TL.ext_tl (hy.trans hy'.symm)]⟩
        rw [e1]
        refine ⟨rfl, _, rfl, ?_⟩
        rw [decide_eq_true rfl]
        exact iteF ⟨s56 _ _ w1, w2.trans s56⟩
      · obtain ⟨w1, w2⟩ := hQ
        refine ⟨Nat.zero_le _, fun l0 hl0 => ?_⟩
        have s9 := Sm.new (o := .lst []) hl0
        refine ⟨Dl, l0, [], rfl, rfl, SqL.of (s9 _ _ w1), SqL.of upd_same, _, rfl, iteNS rfl ?_⟩
        exact ⟨_, _, rfl, sy.trans (w2.trans s9)⟩
    · exact q _
end
/-! ### what the top has written -/
theorem df_mk {K : PySem.W.Frag} {h : Heap} {mg : Str → Option Value} {x : Str} {st : Stmt} {f : Addr} {od an : Option Addr} {sl : Array (Option Value)} {oc kV dc pm cd ct : Value} {ps : List Str} (X : K.In h) (G : h.Ns mainGlobals mg)
    (a : PySem.W.nsIn K mainGlobals x = some (some (.ref f))) (l : K.lookup f = some ⟨oc, od, .func (PySem.W.fnOf x x (defArgs st) (defBody st) (defScope st) .none kV dc pm an cd ct), sl⟩) (c : PySem.W.codeIn K cd x = true) (k : PySem.W.keepIn K (.ref f) = true)
    (b : ∀ (kV doc pm : Value) (an : Option Addr) (cdv ct : Value) (us : List Value), us.length = ps.length → bindArgs (PySem.W.fnOf x x (defArgs st) (defBody st) (defScope st) .none kV doc pm an cdv ct) ⟨us, []⟩ = pure (ps.zip us)) :
    Df K mg x st f (PySem.W.fnOf x x (defArgs st) (defBody st) (defScope st) .none kV dc pm an cd ct) ps := ⟨fun_mk l c k, (fun_mk l c k).binds b, PySem.W.mg_of X G a⟩
theorem all_mk {l : PySem.W.OpenLaw} {w : World} {K : PySem.W.Frag} {h : Heap} {mg : Str → Option Value} {fa : Addr} (X : K.In h) (G : h.Ns mainGlobals mg) (hfa : mg "law" = some (.ref fa))
    {f1 : Addr} {od1 an1 : Option Addr} {sl1 : Array (Option Value)} {oc1 kV1 dc1 pm1 cd1 ct1 : Value} (a1 : PySem.W.nsIn K mainGlobals "is_whole" = some (some (.ref f1))) (l1 : K.lookup f1 = some ⟨oc1, od1, .func (PySem.W.fnOf "is_whole" "is_whole" (defArgs s_is_whole) (defBody s_is_whole) (defScope s_is_whole) .none kV1 dc1 pm1 an1 cd1 ct1), sl1⟩) (c1 : PySem.W.codeIn K cd1 "is_whole" = true) (k1 : PySem.W.keepIn K (.ref f1) = true)
    {f2 : Addr} {od2 an2 : Option Addr} {sl2 : Array (Option Value)} {oc2 kV2 dc2 pm2 cd2 ct2 : Value} (a2 : PySem.W.nsIn K mainGlobals "is_level" = some (some (.ref f2))) (l2 : K.lookup f2 = some ⟨oc2, od2, .func (PySem.W.fnOf "is_level" "is_level" (defArgs s_is_level) (defBody s_is_level) (defScope s_is_level) .none kV2 dc2 pm2 an2 cd2 ct2), sl2⟩) (c2 : PySem.W.codeIn K cd2 "is_level" = true) (k2 : PySem.W.keepIn K (.ref f2) = true)
    {f3 : Addr} {od3 an3 : Option Addr} {sl3 : Array (Option Value)} {oc3 kV3 dc3 pm3 cd3 ct3 : Value} (a3 : PySem.W.nsIn K mainGlobals "number_of" = some (some (.ref f3))) (l3 : K.lookup f3 = some ⟨oc3, od3, .func (PySem.W.fnOf "number_of" "number_of" (defArgs s_number_of) (defBody s_number_of) (defScope s_number_of) .none kV3 dc3 pm3 an3 cd3 ct3), sl3⟩) (c3 : PySem.W.codeIn K cd3 "number_of" = true) (k3 : PySem.W.keepIn K (.ref f3) = true)
    {f4 : Addr} {od4 an4 : Option Addr} {sl4 : Array (Option Value)} {oc4 kV4 dc4 pm4 cd4 ct4 : Value} (a4 : PySem.W.nsIn K mainGlobals "joined" = some (some (.ref f4))) (l4 : K.lookup f4 = some ⟨oc4, od4, .func (PySem.W.fnOf "joined" "joined" (defArgs s_joined) (defBody s_joined) (defScope s_joined) .none kV4 dc4 pm4 an4 cd4 ct4), sl4⟩) (c4 : PySem.W.codeIn K cd4 "joined" = true) (k4 : PySem.W.keepIn K (.ref f4) = true)
    {f5 : Addr} {od5 an5 : Option Addr} {sl5 : Array (Option Value)} {oc5 kV5 dc5 pm5 cd5 ct5 : Value} (a5 : PySem.W.nsIn K mainGlobals "format_table" = some (some (.ref f5))) (l5 : K.lookup f5 = some ⟨oc5, od5, .func (PySem.W.fnOf "format_table" "format_table" (defArgs s_format_table) (defBody s_format_table) (defScope s_format_table) .none kV5 dc5 pm5 an5 cd5 ct5), sl5⟩) (c5 : PySem.W.codeIn K cd5 "format_table" = true) (k5 : PySem.W.keepIn K (.ref f5) = true)
    {f6 : Addr} {od6 an6 : Option Addr} {sl6 : Array (Option Value)} {oc6 kV6 dc6 pm6 cd6 ct6 : Value} (a6 : PySem.W.nsIn K mainGlobals "format_tree" = some (some (.ref f6))) (l6 : K.lookup f6 = some ⟨oc6, od6, .func (PySem.W.fnOf "format_tree" "format_tree" (defArgs s_format_tree) (defBody s_format_tree) (defScope s_format_tree) .none kV6 dc6 pm6 an6 cd6 ct6), sl6⟩) (c6 : PySem.W.codeIn K cd6 "format_tree" = true) (k6 : PySem.W.keepIn K (.ref f6) = true)
    {f7 : Addr} {od7 an7 : Option Addr} {sl7 : Array (Option Value)} {oc7 kV7 dc7 pm7 cd7 ct7 : Value} (a7 : PySem.W.nsIn K mainGlobals "count_in" = some (some (.ref f7))) (l7 : K.lookup f7 = some ⟨oc7, od7, .func (PySem.W.fnOf "count_in" "count_in" (defArgs s_count_in) (defBody s_count_in) (defScope s_count_in) .none kV7 dc7 pm7 an7 cd7 ct7), sl7⟩) (c7 : PySem.W.codeIn K cd7 "count_in" = true) (k7 : PySem.W.keepIn K (.ref f7) = true)
    {f8 : Addr} {od8 an8 : Option Addr} {sl8 : Array (Option Value)} {oc8 kV8 dc8 pm8 cd8 ct8 : Value} (a8 : PySem.W.nsIn K mainGlobals "row_in" = some (some (.ref f8))) (l8 : K.lookup f8 = some ⟨oc8, od8, .func (PySem.W.fnOf "row_in" "row_in" (defArgs s_row_in) (defBody s_row_in) (defScope s_row_in) .none kV8 dc8 pm8 an8 cd8 ct8), sl8⟩) (c8 : PySem.W.codeIn K cd8 "row_in" = true) (k8 : PySem.W.keepIn K (.ref f8) = true)
    {f9 : Addr} {od9 an9 : Option Addr} {sl9 : Array (Option Value)} {oc9 kV9 dc9 pm9 cd9 ct9 : Value} (a9 : PySem.W.nsIn K mainGlobals "parse_lines" = some (some (.ref f9))) (l9 : K.lookup f9 = some ⟨oc9, od9, .func (PySem.W.fnOf "parse_lines" "parse_lines" (defArgs s_parse_lines) (defBody s_parse_lines) (defScope s_parse_lines) .none kV9 dc9 pm9 an9 cd9 ct9), sl9⟩) (c9 : PySem.W.codeIn K cd9 "parse_lines" = true) (k9 : PySem.W.keepIn K (.ref f9) = true)
    {f10 : Addr} {od10 an10 : Option Addr} {sl10 : Array (Option Value)} {oc10 kV10 dc10 pm10 cd10 ct10 : Value} (a10 : PySem.W.nsIn K mainGlobals "parse_table" = some (some (.ref f10))) (l10 : K.lookup f10 = some ⟨oc10, od10, .func (PySem.W.fnOf "parse_table" "parse_table" (defArgs s_parse_table) (defBody s_parse_table) (defScope s_parse_table) .none kV10 dc10 pm10 an10 cd10 ct10), sl10⟩) (c10 : PySem.W.codeIn K cd10 "parse_table" = true) (k10 : PySem.W.keepIn K (.ref f10) = true)
    {f11 : Addr} {od11 an11 : Option Addr} {sl11 : Array (Option Value)} {oc11 kV11 dc11 pm11 cd11 ct11 : Value} (a11 : PySem.W.nsIn K mainGlobals "_law_draws" = some (some (.ref f11))) (l11 : K.lookup f11 = some ⟨oc11, od11, .func (PySem.W.fnOf "_law_draws" "_law_draws" (defArgs s_L_draws) (defBody s_L_draws) (defScope s_L_draws) .none kV11 dc11 pm11 an11 cd11 ct11), sl11⟩) (c11 : PySem.W.codeIn K cd11 "_law_draws" = true) (k11 : PySem.W.keepIn K (.ref f11) = true)
    {f12 : Addr} {od12 an12 : Option Addr} {sl12 : Array (Option Value)} {oc12 kV12 dc12 pm12 cd12 ct12 : Value} (a12 : PySem.W.nsIn K mainGlobals "_law_next" = some (some (.ref f12))) (l12 : K.lookup f12 = some ⟨oc12, od12, .func (PySem.W.fnOf "_law_next" "_law_next" (defArgs s_L_next) (defBody s_L_next) (defScope s_L_next) .none kV12 dc12 pm12 an12 cd12 ct12), sl12⟩) (c12 : PySem.W.codeIn K cd12 "_law_next" = true) (k12 : PySem.W.keepIn K (.ref f12) = true)
    {f13 : Addr} {od13 an13 : Option Addr} {sl13 : Array (Option Value)} {oc13 kV13 dc13 pm13 cd13 ct13 : Value} (a13 : PySem.W.nsIn K mainGlobals "_law_one" = some (some (.ref f13))) (l13 : K.lookup f13 = some ⟨oc13, od13, .func (PySem.W.fnOf "_law_one" "_law_one" (defArgs s_L_one) (defBody s_L_one) (defScope s_L_one) .none kV13 dc13 pm13 an13 cd13 ct13), sl13⟩) (c13 : PySem.W.codeIn K cd13 "_law_one" = true) (k13 : PySem.W.keepIn K (.ref f13) = true)
    {f14 : Addr} {od14 an14 : Option Addr} {sl14 : Array (Option Value)} {oc14 kV14 dc14 pm14 cd14 ct14 : Value} (a14 : PySem.W.nsIn K mainGlobals "_law_equal" = some (some (.ref f14))) (l14 : K.lookup f14 = some ⟨oc14, od14, .func (PySem.W.fnOf "_law_equal" "_law_equal" (defArgs s_L_equal) (defBody s_L_equal) (defScope s_L_equal) .none kV14 dc14 pm14 an14 cd14 ct14), sl14⟩) (c14 : PySem.W.codeIn K cd14 "_law_equal" = true) (k14 : PySem.W.keepIn K (.ref f14) = true)
    {f15 : Addr} {od15 an15 : Option Addr} {sl15 : Array (Option Value)} {oc15 kV15 dc15 pm15 cd15 ct15 : Value} (a15 : PySem.W.nsIn K mainGlobals "_law_count" = some (some (.ref f15))) (l15 : K.lookup f15 = some ⟨oc15, od15, .func (PySem.W.fnOf "_law_count" "_law_count" (defArgs s_L_count) (defBody s_L_count) (defScope s_L_count) .none kV15 dc15 pm15 an15 cd15 ct15), sl15⟩) (c15 : PySem.W.codeIn K cd15 "_law_count" = true) (k15 : PySem.W.keepIn K (.ref f15) = true)
    {f16 : Addr} {od16 an16 : Option Addr} {sl16 : Array (Option Value)} {oc16 kV16 dc16 pm16 cd16 ct16 : Value} (a16 : PySem.W.nsIn K mainGlobals "_law_grades" = some (some (.ref f16))) (l16 : K.lookup f16 = some ⟨oc16, od16, .func (PySem.W.fnOf "_law_grades" "_law_grades" (defArgs s_L_grades) (defBody s_L_grades) (defScope s_L_grades) .none kV16 dc16 pm16 an16 cd16 ct16), sl16⟩) (c16 : PySem.W.codeIn K cd16 "_law_grades" = true) (k16 : PySem.W.keepIn K (.ref f16) = true)
    {f17 : Addr} {od17 an17 : Option Addr} {sl17 : Array (Option Value)} {oc17 kV17 dc17 pm17 cd17 ct17 : Value} (a17 : PySem.W.nsIn K mainGlobals "_law_level" = some (some (.ref f17))) (l17 : K.lookup f17 = some ⟨oc17, od17, .func (PySem.W.fnOf "_law_level" "_law_level" (defArgs s_L_level) (defBody s_L_level) (defScope s_L_level) .none kV17 dc17 pm17 an17 cd17 ct17), sl17⟩) (c17 : PySem.W.codeIn K cd17 "_law_level" = true) (k17 : PySem.W.keepIn K (.ref f17) = true)
    {f18 : Addr} {od18 an18 : Option Addr} {sl18 : Array (Option Value)} {oc18 kV18 dc18 pm18 cd18 ct18 : Value} (a18 : PySem.W.nsIn K mainGlobals "_law_nested" = some (some (.ref f18))) (l18 : K.lookup f18 = some ⟨oc18, od18, .func (PySem.W.fnOf "_law_nested" "_law_nested" (defArgs s_L_nested) (defBody s_L_nested) (defScope s_L_nested) .none kV18 dc18 pm18 an18 cd18 ct18), sl18⟩) (c18 : PySem.W.codeIn K cd18 "_law_nested" = true) (k18 : PySem.W.keepIn K (.ref f18) = true)
    {f19 : Addr} {od19 an19 : Option Addr} {sl19 : Array (Option Value)} {oc19 kV19 dc19 pm19 cd19 ct19 : Value} (a19 : PySem.W.nsIn K mainGlobals "_law_raised" = some (some (.ref f19))) (l19 : K.lookup f19 = some ⟨oc19, od19, .func (PySem.W.fnOf "_law_raised" "_law_raised" (defArgs s_L_raised) (defBody s_L_raised) (defScope s_L_raised) .none kV19 dc19 pm19 an19 cd19 ct19), sl19⟩) (c19 : PySem.W.codeIn K cd19 "_law_raised" = true) (k19 : PySem.W.keepIn K (.ref f19) = true)
    {f20 : Addr} {od20 an20 : Option Addr} {sl20 : Array (Option Value)} {oc20 kV20 dc20 pm20 cd20 ct20 : Value} (a20 : PySem.W.nsIn K mainGlobals "_law_levels" = some (some (.ref f20))) (l20 : K.lookup f20 = some ⟨oc20, od20, .func (PySem.W.fnOf "_law_levels" "_law_levels" (defArgs s_L_levels) (defBody s_L_levels) (defScope s_L_levels) .none kV20 dc20 pm20 an20 cd20 ct20), sl20⟩) (c20 : PySem.W.codeIn K cd20 "_law_levels" = true) (k20 : PySem.W.keepIn K (.ref f20) = true)
    {f21 : Addr} {od21 an21 : Option Addr} {sl21 : Array (Option Value)} {oc21 kV21 dc21 pm21 cd21 ct21 : Value} (a21 : PySem.W.nsIn K mainGlobals "_law_any" = some (some (.ref f21))) (l21 : K.lookup f21 = some ⟨oc21, od21, .func (PySem.W.fnOf "_law_any" "_law_any" (defArgs s_L_any) (defBody s_L_any) (defScope s_L_any) .none kV21 dc21 pm21 an21 cd21 ct21), sl21⟩) (c21 : PySem.W.codeIn K cd21 "_law_any" = true) (k21 : PySem.W.keepIn K (.ref f21) = true)
    {f22 : Addr} {od22 an22 : Option Addr} {sl22 : Array (Option Value)} {oc22 kV22 dc22 pm22 cd22 ct22 : Value} (a22 : PySem.W.nsIn K mainGlobals "_law_table" = some (some (.ref f22))) (l22 : K.lookup f22 = some ⟨oc22, od22, .func (PySem.W.fnOf "_law_table" "_law_table" (defArgs s_L_table) (defBody s_L_table) (defScope s_L_table) .none kV22 dc22 pm22 an22 cd22 ct22), sl22⟩) (c22 : PySem.W.codeIn K cd22 "_law_table" = true) (k22 : PySem.W.keepIn K (.ref f22) = true)
    {f23 : Addr} {od23 an23 : Option Addr} {sl23 : Array (Option Value)} {oc23 kV23 dc23 pm23 cd23 ct23 : Value} (a23 : PySem.W.nsIn K mainGlobals "_law_parts" = some (some (.ref f23))) (l23 : K.lookup f23 = some ⟨oc23, od23, .func (PySem.W.fnOf "_law_parts" "_law_parts" (defArgs s_L_parts) (defBody s_L_parts) (defScope s_L_parts) .none kV23 dc23 pm23 an23 cd23 ct23), sl23⟩) (c23 : PySem.W.codeIn K cd23 "_law_parts" = true) (k23 : PySem.W.keepIn K (.ref f23) = true)
    {f24 : Addr} {od24 an24 : Option Addr} {sl24 : Array (Option Value)} {oc24 kV24 dc24 pm24 cd24 ct24 : Value} (a24 : PySem.W.nsIn K mainGlobals "_law_tree_text" = some (some (.ref f24))) (l24 : K.lookup f24 = some ⟨oc24, od24, .func (PySem.W.fnOf "_law_tree_text" "_law_tree_text" (defArgs s_L_tree_text) (defBody s_L_tree_text) (defScope s_L_tree_text) .none kV24 dc24 pm24 an24 cd24 ct24), sl24⟩) (c24 : PySem.W.codeIn K cd24 "_law_tree_text" = true) (k24 : PySem.W.keepIn K (.ref f24) = true)
    {f25 : Addr} {od25 an25 : Option Addr} {sl25 : Array (Option Value)} {oc25 kV25 dc25 pm25 cd25 ct25 : Value} (a25 : PySem.W.nsIn K mainGlobals "_law_table_text" = some (some (.ref f25))) (l25 : K.lookup f25 = some ⟨oc25, od25, .func (PySem.W.fnOf "_law_table_text" "_law_table_text" (defArgs s_L_table_text) (defBody s_L_table_text) (defScope s_L_table_text) .none kV25 dc25 pm25 an25 cd25 ct25), sl25⟩) (c25 : PySem.W.codeIn K cd25 "_law_table_text" = true) (k25 : PySem.W.keepIn K (.ref f25) = true)
    {f26 : Addr} {od26 an26 : Option Addr} {sl26 : Array (Option Value)} {oc26 kV26 dc26 pm26 cd26 ct26 : Value} (a26 : PySem.W.nsIn K mainGlobals "_law_ladder" = some (some (.ref f26))) (l26 : K.lookup f26 = some ⟨oc26, od26, .func (PySem.W.fnOf "_law_ladder" "_law_ladder" (defArgs s_L_ladder) (defBody s_L_ladder) (defScope s_L_ladder) .none kV26 dc26 pm26 an26 cd26 ct26), sl26⟩) (c26 : PySem.W.codeIn K cd26 "_law_ladder" = true) (k26 : PySem.W.keepIn K (.ref f26) = true)
    {f27 : Addr} {od27 an27 : Option Addr} {sl27 : Array (Option Value)} {oc27 kV27 dc27 pm27 cd27 ct27 : Value} (a27 : PySem.W.nsIn K mainGlobals "_law_table_right" = some (some (.ref f27))) (l27 : K.lookup f27 = some ⟨oc27, od27, .func (PySem.W.fnOf "_law_table_right" "_law_table_right" (defArgs s_L_table_right) (defBody s_L_table_right) (defScope s_L_table_right) .none kV27 dc27 pm27 an27 cd27 ct27), sl27⟩) (c27 : PySem.W.codeIn K cd27 "_law_table_right" = true) (k27 : PySem.W.keepIn K (.ref f27) = true)
    {f28 : Addr} {od28 an28 : Option Addr} {sl28 : Array (Option Value)} {oc28 kV28 dc28 pm28 cd28 ct28 : Value} (a28 : PySem.W.nsIn K mainGlobals "_law_tree_right" = some (some (.ref f28))) (l28 : K.lookup f28 = some ⟨oc28, od28, .func (PySem.W.fnOf "_law_tree_right" "_law_tree_right" (defArgs s_L_tree_right) (defBody s_L_tree_right) (defScope s_L_tree_right) .none kV28 dc28 pm28 an28 cd28 ct28), sl28⟩) (c28 : PySem.W.codeIn K cd28 "_law_tree_right" = true) (k28 : PySem.W.keepIn K (.ref f28) = true)
    {f29 : Addr} {od29 an29 : Option Addr} {sl29 : Array (Option Value)} {oc29 kV29 dc29 pm29 cd29 ct29 : Value} (a29 : PySem.W.nsIn K mainGlobals "law" = some (some (.ref f29))) (l29 : K.lookup f29 = some ⟨oc29, od29, .func (PySem.W.fnOf "law" "law" (defArgs s_law) (defBody s_law) (defScope s_law) .none kV29 dc29 pm29 an29 cd29 ct29), sl29⟩) (c29 : PySem.W.codeIn K cd29 "law" = true) (k29 : PySem.W.keepIn K (.ref f29) = true)
    {t_ITEMS : Tok} (n_ITEMS : PySem.W.nsIn K mainGlobals "ITEMS" = some (some (.int 12 t_ITEMS))) {t_LEVEL : Tok} (n_LEVEL : PySem.W.nsIn K mainGlobals "LEVEL" = some (some (.int 1000000000000 t_LEVEL))) {t_DIGITS : Tok} (n_DIGITS : PySem.W.nsIn K mainGlobals "DIGITS" = some (some (.int 13 t_DIGITS)))   (z1 : PySem.W.nsIn K mainGlobals "len" = some none) (z2 : PySem.W.nsIn K mainGlobals "list" = some none) (z3 : PySem.W.nsIn K mainGlobals "int" = some none) (z4 : PySem.W.nsIn K mainGlobals "range" = some none) (z5 : PySem.W.nsIn K mainGlobals "sorted" = some none) (z6 : PySem.W.nsIn K mainGlobals "set" = some none) (z7 : PySem.W.nsIn K mainGlobals "tuple" = some none) (z8 : PySem.W.nsIn K mainGlobals "min" = some none) (z9 : PySem.W.nsIn K mainGlobals "max" = some none) (z10 : PySem.W.nsIn K mainGlobals "isinstance" = some none) (z11 : PySem.W.nsIn K mainGlobals "bool" = some none) (z12 : PySem.W.nsIn K mainGlobals "str" = some none) (z13 : PySem.W.nsIn K mainGlobals "all" = some none) (z14 : PySem.W.nsIn K mainGlobals "zip" = some none) (z15 : PySem.W.nsIn K mainGlobals "repr" = some none) (z16 : PySem.W.nsIn K mainGlobals "enumerate" = some none) (z17 : PySem.W.nsIn K mainGlobals "abs" = some none) (z18 : PySem.W.nsIn K mainGlobals "sum" = some none) (z19 : PySem.W.nsIn K mainGlobals "dict" = some none) :
    ∃ fd : FuncData, (∀ (s : Shared) (v : Value), BindsTo s fd ⟨[v], []⟩ [("_law_script", v)]) ∧ ∀ base : Heap, K.In base → base.Ns mainGlobals mg → GOk l.prog w K mg base 15 fa fd ["_law_script"] (sp_law K) := by
  have e := hfa.symm.trans (PySem.W.mg_of X G a29)
  cases e
  have B : Bi mg := ⟨PySem.W.mg_none_of X G z1, PySem.W.mg_none_of X G z2, PySem.W.mg_none_of X G z3, PySem.W.mg_none_of X G z4, PySem.W.mg_none_of X G z5, PySem.W.mg_none_of X G z6, PySem.W.mg_none_of X G z7, PySem.W.mg_none_of X G z8, PySem.W.mg_none_of X G z9, PySem.W.mg_none_of X G z10, PySem.W.mg_none_of X G z11, PySem.W.mg_none_of X G z12, PySem.W.mg_none_of X G z13, PySem.W.mg_none_of X G z14, PySem.W.mg_none_of X G z15, PySem.W.mg_none_of X G z16, PySem.W.mg_none_of X G z17, PySem.W.mg_none_of X G z18, PySem.W.mg_none_of X G z19⟩
  have g_ITEMS : ∃ t, mg "ITEMS" = some (.int 12 t) := ⟨_, PySem.W.mg_of X G n_ITEMS⟩
  have g_LEVEL : ∃ t, mg "LEVEL" = some (.int 1000000000000 t) := ⟨_, PySem.W.mg_of X G n_LEVEL⟩
  have g_DIGITS : ∃ t, mg "DIGITS" = some (.int 13 t) := ⟨_, PySem.W.mg_of X G n_DIGITS⟩
  have d_is_whole := df_mk (st := s_is_whole) (ps := ["value"]) X G a1 l1 c1 k1 (fun _ _ _ _ _ _ us hl => match us, hl with | [_], _ => rfl)
  have d_is_level := df_mk (st := s_is_level) (ps := ["value"]) X G a2 l2 c2 k2 (fun _ _ _ _ _ _ us hl => match us, hl with | [_], _ => rfl)
  have d_number_of := df_mk (st := s_number_of) (ps := ["word"]) X G a3 l3 c3 k3 (fun _ _ _ _ _ _ us hl => match us, hl with | [_], _ => rfl)
  have d_joined := df_mk (st := s_joined) (ps := ["numbers"]) X G a4 l4 c4 k4 (fun _ _ _ _ _ _ us hl => match us, hl with | [_], _ => rfl)
  have d_format_table := df_mk (st := s_format_table) (ps := ["table"]) X G a5 l5 c5 k5 (fun _ _ _ _ _ _ us hl => match us, hl with | [_], _ => rfl)
  have d_format_tree := df_mk (st := s_format_tree) (ps := ["tree"]) X G a6 l6 c6 k6 (fun _ _ _ _ _ _ us hl => match us, hl with | [_], _ => rfl)
  have d_count_in := df_mk (st := s_count_in) (ps := ["line"]) X G a7 l7 c7 k7 (fun _ _ _ _ _ _ us hl => match us, hl with | [_], _ => rfl)
  have d_row_in := df_mk (st := s_row_in) (ps := ["line", "size"]) X G a8 l8 c8 k8 (fun _ _ _ _ _ _ us hl => match us, hl with | [_, _], _ => rfl)
  have d_parse_lines := df_mk (st := s_parse_lines) (ps := ["lines"]) X G a9 l9 c9 k9 (fun _ _ _ _ _ _ us hl => match us, hl with | [_], _ => rfl)
  have d_parse_table := df_mk (st := s_parse_table) (ps := ["value"]) X G a10 l10 c10 k10 (fun _ _ _ _ _ _ us hl => match us, hl with | [_], _ => rfl)
  have d_L_draws := df_mk (st := s_L_draws) (ps := ["_law_script"]) X G a11 l11 c11 k11 (fun _ _ _ _ _ _ us hl => match us, hl with | [_], _ => rfl)
  have d_L_next := df_mk (st := s_L_next) (ps := ["_law_drawn", "_law_many"]) X G a12 l12 c12 k12 (fun _ _ _ _ _ _ us hl => match us, hl with | [_, _], _ => rfl)
  have d_L_one := df_mk (st := s_L_one) (ps := ["_law_drawn", "_law_items"]) X G a13 l13 c13 k13 (fun _ _ _ _ _ _ us hl => match us, hl with | [_, _], _ => rfl)
  have d_L_equal := df_mk (st := s_L_equal) (ps := ["_law_one_here", "_law_other"]) X G a14 l14 c14 k14 (fun _ _ _ _ _ _ us hl => match us, hl with | [_, _], _ => rfl)
  have d_L_count := df_mk (st := s_L_count) (ps := ["_law_drawn", "_law_most"]) X G a15 l15 c15 k15 (fun _ _ _ _ _ _ us hl => match us, hl with | [_, _], _ => rfl)
  have d_L_grades := df_mk (st := s_L_grades) (ps := ["_law_drawn"]) X G a16 l16 c16 k16 (fun _ _ _ _ _ _ us hl => match us, hl with | [_], _ => rfl)
  have d_L_level := df_mk (st := s_L_level) (ps := ["_law_table_here", "_law_one_here", "_law_other"]) X G a17 l17 c17 k17 (fun _ _ _ _ _ _ us hl => match us, hl with | [_, _, _], _ => rfl)
  have d_L_nested := df_mk (st := s_L_nested) (ps := ["_law_drawn", "_law_count_here", "_law_grades_here"]) X G a18 l18 c18 k18 (fun _ _ _ _ _ _ us hl => match us, hl with | [_, _, _], _ => rfl)
  have d_L_raised := df_mk (st := s_L_raised) (ps := ["_law_drawn", "_law_table_here", "_law_grades_here"]) X G a19 l19 c19 k19 (fun _ _ _ _ _ _ us hl => match us, hl with | [_, _, _], _ => rfl)
  have d_L_levels := df_mk (st := s_L_levels) (ps := ["_law_drawn", "_law_many", "_law_grades_here"]) X G a20 l20 c20 k20 (fun _ _ _ _ _ _ us hl => match us, hl with | [_, _, _], _ => rfl)
  have d_L_any := df_mk (st := s_L_any) (ps := ["_law_drawn", "_law_many", "_law_wide"]) X G a21 l21 c21 k21 (fun _ _ _ _ _ _ us hl => match us, hl with | [_, _, _], _ => rfl)
  have d_L_table := df_mk (st := s_L_table) (ps := ["_law_drawn", "_law_count_here"]) X G a22 l22 c22 k22 (fun _ _ _ _ _ _ us hl => match us, hl with | [_, _], _ => rfl)
  have d_L_parts := df_mk (st := s_L_parts) (ps := ["_law_table_here", "_law_items"]) X G a23 l23 c23 k23 (fun _ _ _ _ _ _ us hl => match us, hl with | [_, _], _ => rfl)
  have d_L_tree_text := df_mk (st := s_L_tree_text) (ps := ["_law_tree"]) X G a24 l24 c24 k24 (fun _ _ _ _ _ _ us hl => match us, hl with | [_], _ => rfl)
  have d_L_table_text := df_mk (st := s_L_table_text) (ps := ["_law_table_here"]) X G a25 l25 c25 k25 (fun _ _ _ _ _ _ us hl => match us, hl with | [_], _ => rfl)
  have d_L_ladder := df_mk (st := s_L_ladder) (ps := ["_law_drawn", "_law_count_here"]) X G a26 l26 c26 k26 (fun _ _ _ _ _ _ us hl => match us, hl with | [_, _], _ => rfl)
  have d_L_table_right := df_mk (st := s_L_table_right) (ps := ["_law_table_here"]) X G a27 l27 c27 k27 (fun _ _ _ _ _ _ us hl => match us, hl with | [_], _ => rfl)
  have d_L_tree_right := df_mk (st := s_L_tree_right) (ps := ["_law_known"]) X G a28 l28 c28 k28 (fun _ _ _ _ _ _ us hl => match us, hl with | [_], _ => rfl)
  have TD : DrawDefs K mg := ⟨B, ⟨_, _, d_L_next⟩, ⟨_, _, d_L_one⟩, ⟨_, _, d_L_count⟩, ⟨_, _, d_L_grades⟩, ⟨_, _, d_L_level⟩, ⟨_, _, d_L_nested⟩, ⟨_, _, d_L_raised⟩, ⟨_, _, d_L_levels⟩, ⟨_, _, d_L_any⟩⟩
  have T : LawDefs K mg := ⟨TD, g_DIGITS, g_ITEMS, g_LEVEL, ⟨_, _, d_L_draws⟩, ⟨_, _, d_L_table⟩, ⟨_, _, d_L_equal⟩, ⟨_, _, d_L_parts⟩, ⟨_, _, d_L_tree_text⟩, ⟨_, _, d_L_table_text⟩, ⟨_, _, d_L_ladder⟩, ⟨_, _, d_L_table_right⟩, ⟨_, _, d_L_tree_right⟩, ⟨_, _, d_is_whole⟩, ⟨_, _, d_is_level⟩, ⟨_, _, d_number_of⟩, ⟨_, _, d_joined⟩, ⟨_, _, d_format_table⟩, ⟨_, _, d_format_tree⟩, ⟨_, _, d_count_in⟩, ⟨_, _, d_row_in⟩, ⟨_, _, d_parse_lines⟩, ⟨_, _, d_parse_table⟩⟩
  exact ⟨PySem.W.fnOf "law" "law" (defArgs s_law) (defBody s_law) (defScope s_law) .none kV29 dc29 pm29 an29 cd29 ct29, fun s v => .of_eq rfl, fun base _ _ => ok_law (fun_mk l29 c29 k29) T⟩
set_option maxHeartbeats 0 in
theorem hfacts {w : World} {K : PySem.W.Frag} {h : Heap} {mg : Str → Option Value} {fa : Addr} (X : K.In h) (G : h.Ns mainGlobals mg) (hfa : mg "law" = some (.ref fa)) (c : Says2 hfs hfn K) (ch : hhx K = hhv w) :
    ∃ fd : FuncData, (∀ (s : Shared) (v : Value), BindsTo s fd ⟨[v], []⟩ [("_law_script", v)]) ∧ ∀ base : Heap, K.In base → base.Ns mainGlobals mg → GOk PySem.Challenge.rw_mergelevels_k78_texts_of_tables_and_tree.prog w K mg base 15 fa fd ["_law_script"] (sp_law K) := by
  have a1 : PySem.W.nsIn K mainGlobals "is_whole" = some (some (.ref (He.ga K "is_whole"))) := of_decide_eq_true (c.fact 0 0)
  obtain ⟨_, _, _, kv_l1, _, _, _, _, _, l1, cc_l1⟩ := c.def_ 0 (d := ⟨fun K => (He.ga K "is_whole"), "is_whole", "is_whole", (defArgs s_is_whole), (defBody s_is_whole), (defScope s_is_whole)⟩) (by rfl)
  have k1 : PySem.W.keepIn K (.ref (He.ga K "is_whole")) = true := c.fact 0 1
  have a2 : PySem.W.nsIn K mainGlobals "is_level" = some (some (.ref (He.ga K "is_level"))) := of_decide_eq_true (c.fact 0 2)
  obtain ⟨_, _, _, kv_l2, _, _, _, _, _, l2, cc_l2⟩ := c.def_ 1 (d := ⟨fun K => (He.ga K "is_level"), "is_level", "is_level", (defArgs s_is_level), (defBody s_is_level), (defScope s_is_level)⟩) (by rfl)
  have k2 : PySem.W.keepIn K (.ref (He.ga K "is_level")) = true := c.fact 0 3
  have a3 : PySem.W.nsIn K mainGlobals "number_of" = some (some (.ref (He.ga K "number_of"))) := of_decide_eq_true (c.fact 0 4)
  obtain ⟨_, _, _, kv_l3, _, _, _, _, _, l3, cc_l3⟩ := c.def_ 2 (d := ⟨fun K => (He.ga K "number_of"), "number_of", "number_of", (defArgs s_number_of), (defBody s_number_of), (defScope s_number_of)⟩) (by rfl)
  have k3 : PySem.W.keepIn K (.ref (He.ga K "number_of")) = true := c.fact 0 5
  have a4 : PySem.W.nsIn K mainGlobals "joined" = some (some (.ref (He.ga K "joined"))) := of_decide_eq_true (c.fact 0 6)
  obtain ⟨_, _, _, kv_l4, _, _, _, _, _, l4, cc_l4⟩ := c.def_ 3 (d := ⟨fun K => (He.ga K "joined"), "joined", "joined", (defArgs s_joined), (defBody s_joined), (defScope s_joined)⟩) (by rfl)
  have k4 : PySem.W.keepIn K (.ref (He.ga K "joined")) = true := c.fact 0 7
  have a5 : PySem.W.nsIn K mainGlobals "format_table" = some (some (.ref (He.ga K "format_table"))) := of_decide_eq_true (c.fact 0 8)
  obtain ⟨_, _, _, kv_l5, _, _, _, _, _, l5, cc_l5⟩ := c.def_ 4 (d := ⟨fun K => (He.ga K "format_table"), "format_table", "format_table", (defArgs s_format_table), (defBody s_format_table), (defScope s_format_table)⟩) (by rfl)
  have k5 : PySem.W.keepIn K (.ref (He.ga K "format_table")) = true := c.fact 0 9
  have a6 : PySem.W.nsIn K mainGlobals "format_tree" = some (some (.ref (He.ga K "format_tree"))) := of_decide_eq_true (c.fact 0 10)
  obtain ⟨_, _, _, kv_l6, _, _, _, _, _, l6, cc_l6⟩ := c.def_ 5 (d := ⟨fun K => (He.ga K "format_tree"), "format_tree", "format_tree", (defArgs s_format_tree), (defBody s_format_tree), (defScope s_format_tree)⟩) (by rfl)
  have k6 : PySem.W.keepIn K (.ref (He.ga K "format_tree")) = true := c.fact 0 11
  have a7 : PySem.W.nsIn K mainGlobals "count_in" = some (some (.ref (He.ga K "count_in"))) := of_decide_eq_true (c.fact 0 12)
  obtain ⟨_, _, _, kv_l7, _, _, _, _, _, l7, cc_l7⟩ := c.def_ 6 (d := ⟨fun K => (He.ga K "count_in"), "count_in", "count_in", (defArgs s_count_in), (defBody s_count_in), (defScope s_count_in)⟩) (by rfl)
  have k7 : PySem.W.keepIn K (.ref (He.ga K "count_in")) = true := c.fact 0 13
  have a8 : PySem.W.nsIn K mainGlobals "row_in" = some (some (.ref (He.ga K "row_in"))) := of_decide_eq_true (c.fact 0 14)
  obtain ⟨_, _, _, kv_l8, _, _, _, _, _, l8, cc_l8⟩ := c.def_ 7 (d := ⟨fun K => (He.ga K "row_in"), "row_in", "row_in", (defArgs s_row_in), (defBody s_row_in), (defScope s_row_in)⟩) (by rfl)
  have k8 : PySem.W.keepIn K (.ref (He.ga K "row_in")) = true := c.fact 0 15
  have a9 : PySem.W.nsIn K mainGlobals "parse_lines" = some (some (.ref (He.ga K "parse_lines"))) := of_decide_eq_true (c.fact 0 16)
  obtain ⟨_, _, _, kv_l9, _, _, _, _, _, l9, cc_l9⟩ := c.def_ 8 (d := ⟨fun K => (He.ga K "parse_lines"), "parse_lines", "parse_lines", (defArgs s_parse_lines), (defBody s_parse_lines), (defScope s_parse_lines)⟩) (by rfl)
  have k9 : PySem.W.keepIn K (.ref (He.ga K "parse_lines")) = true := c.fact 0 17
  have a10 : PySem.W.nsIn K mainGlobals "parse_table" = some (some (.ref (He.ga K "parse_table"))) := of_decide_eq_true (c.fact 0 18)
  obtain ⟨_, _, _, kv_l10, _, _, _, _, _, l10, cc_l10⟩ := c.def_ 9 (d := ⟨fun K => (He.ga K "parse_table"), "parse_table", "parse_table", (defArgs s_parse_table), (defBody s_parse_table), (defScope s_parse_table)⟩) (by rfl)
  have k10 : PySem.W.keepIn K (.ref (He.ga K "parse_table")) = true := c.fact 0 19
  have a11 : PySem.W.nsIn K mainGlobals "_law_draws" = some (some (.ref (He.ga K "_law_draws"))) := of_decide_eq_true (c.fact 0 20)
  obtain ⟨_, _, _, kv_l11, _, _, _, _, _, l11, cc_l11⟩ := c.def_ 10 (d := ⟨fun K => (He.ga K "_law_draws"), "_law_draws", "_law_draws", (defArgs s_L_draws), (defBody s_L_draws), (defScope s_L_draws)⟩) (by rfl)
  have k11 : PySem.W.keepIn K (.ref (He.ga K "_law_draws")) = true := c.fact 0 21
  have a12 : PySem.W.nsIn K mainGlobals "_law_next" = some (some (.ref (He.ga K "_law_next"))) := of_decide_eq_true (c.fact 0 22)
  obtain ⟨_, _, _, kv_l12, _, _, _, _, _, l12, cc_l12⟩ := c.def_ 11 (d := ⟨fun K => (He.ga K "_law_next"), "_law_next", "_law_next", (defArgs s_L_next), (defBody s_L_next), (defScope s_L_next)⟩) (by rfl)
  have k12 : PySem.W.keepIn K (.ref (He.ga K "_law_next")) = true := c.fact 0 23
  have a13 : PySem.W.nsIn K mainGlobals "_law_one" = some (some (.ref (He.ga K "_law_one"))) := of_decide_eq_true (c.fact 0 24)
  obtain ⟨_, _, _, kv_l13, _, _, _, _, _, l13, cc_l13⟩ := c.def_ 12 (d := ⟨fun K => (He.ga K "_law_one"), "_law_one", "_law_one", (defArgs s_L_one), (defBody s_L_one), (defScope s_L_one)⟩) (by rfl)
  have k13 : PySem.W.keepIn K (.ref (He.ga K "_law_one")) = true := c.fact 0 25
  have a14 : PySem.W.nsIn K mainGlobals "_law_equal" = some (some (.ref (He.ga K "_law_equal"))) := of_decide_eq_true (c.fact 0 26)
  obtain ⟨_, _, _, kv_l14, _, _, _, _, _, l14, cc_l14⟩ := c.def_ 13 (d := ⟨fun K => (He.ga K "_law_equal"), "_law_equal", "_law_equal", (defArgs s_L_equal), (defBody s_L_equal), (defScope s_L_equal)⟩) (by rfl)
  have k14 : PySem.W.keepIn K (.ref (He.ga K "_law_equal")) = true := c.fact 0 27
  have a15 : PySem.W.nsIn K mainGlobals "_law_count" = some (some (.ref (He.ga K "_law_count"))) := of_decide_eq_true (c.fact 0 28)
  obtain ⟨_, _, _, kv_l15, _, _, _, _, _, l15, cc_l15⟩ := c.def_ 14 (d := ⟨fun K => (He.ga K "_law_count"), "_law_count", "_law_count", (defArgs s_L_count), (defBody s_L_count), (defScope s_L_count)⟩) (by rfl)
  have k15 : PySem.W.keepIn K (.ref (He.ga K "_law_count")) = true := c.fact 0 29
  have a16 : PySem.W.nsIn K mainGlobals "_law_grades" = some (some (.ref (He.ga K "_law_grades"))) := of_decide_eq_true (c.fact 0 30)
  obtain ⟨_, _, _, kv_l16, _, _, _, _, _, l16, cc_l16⟩ := c.def_ 15 (d := ⟨fun K => (He.ga K "_law_grades"), "_law_grades", "_law_grades", (defArgs s_L_grades), (defBody s_L_grades), (defScope s_L_grades)⟩) (by rfl)
  have k16 : PySem.W.keepIn K (.ref (He.ga K "_law_grades")) = true := c.fact 0 31
  have a17 : PySem.W.nsIn K mainGlobals "_law_level" = some (some (.ref (He.ga K "_law_level"))) := of_decide_eq_true (c.fact 0 32)
  obtain ⟨_, _, _, kv_l17, _, _, _, _, _, l17, cc_l17⟩ := c.def_ 16 (d := ⟨fun K => (He.ga K "_law_level"), "_law_level", "_law_level", (defArgs s_L_level), (defBody s_L_level), (defScope s_L_level)⟩) (by rfl)
  have k17 : PySem.W.keepIn K (.ref (He.ga K "_law_level")) = true := c.fact 0 33
  have a18 : PySem.W.nsIn K mainGlobals "_law_nested" = some (some (.ref (He.ga K "_law_nested"))) := of_decide_eq_true (c.fact 0 34)
  obtain ⟨_, _, _, kv_l18, _, _, _, _, _, l18, cc_l18⟩ := c.def_ 17 (d := ⟨fun K => (He.ga K "_law_nested"), "_law_nested", "_law_nested", (defArgs s_L_nested), (defBody s_L_nested), (defScope s_L_nested)⟩) (by rfl)
  have k18 : PySem.W.keepIn K (.ref (He.ga K "_law_nested")) = true := c.fact 0 35
  have a19 : PySem.W.nsIn K mainGlobals "_law_raised" = some (some (.ref (He.ga K "_law_raised"))) := of_decide_eq_true (c.fact 0 36)
  obtain ⟨_, _, _, kv_l19, _, _, _, _, _, l19, cc_l19⟩ := c.def_ 18 (d := ⟨fun K => (He.ga K "_law_raised"), "_law_raised", "_law_raised", (defArgs s_L_raised), (defBody s_L_raised), (defScope s_L_raised)⟩) (by rfl)
  have k19 : PySem.W.keepIn K (.ref (He.ga K "_law_raised")) = true := c.fact 0 37
  have a20 : PySem.W.nsIn K mainGlobals "_law_levels" = some (some (.ref (He.ga K "_law_levels"))) := of_decide_eq_true (c.fact 0 38)
  obtain ⟨_, _, _, kv_l20, _, _, _, _, _, l20, cc_l20⟩ := c.def_ 19 (d := ⟨fun K => (He.ga K "_law_levels"), "_law_levels", "_law_levels", (defArgs s_L_levels), (defBody s_L_levels), (defScope s_L_levels)⟩) (by rfl)
  have k20 : PySem.W.keepIn K (.ref (He.ga K "_law_levels")) = true := c.fact 0 39
  have a21 : PySem.W.nsIn K mainGlobals "_law_any" = some (some (.ref (He.ga K "_law_any"))) := of_decide_eq_true (c.fact 0 40)
  obtain ⟨_, _, _, kv_l21, _, _, _, _, _, l21, cc_l21⟩ := c.def_ 20 (d := ⟨fun K => (He.ga K "_law_any"), "_law_any", "_law_any", (defArgs s_L_any), (defBody s_L_any), (defScope s_L_any)⟩) (by rfl)
  have k21 : PySem.W.keepIn K (.ref (He.ga K "_law_any")) = true := c.fact 0 41
  have a22 : PySem.W.nsIn K mainGlobals "_law_table" = some (some (.ref (He.ga K "_law_table"))) := of_decide_eq_true (c.fact 0 42)
  obtain ⟨_, _, _, kv_l22, _, _, _, _, _, l22, cc_l22⟩ := c.def_ 21 (d := ⟨fun K => (He.ga K "_law_table"), "_law_table", "_law_table", (defArgs s_L_table), (defBody s_L_table), (defScope s_L_table)⟩) (by rfl)
  have k22 : PySem.W.keepIn K (.ref (He.ga K "_law_table")) = true := c.fact 0 43
  have a23 : PySem.W.nsIn K mainGlobals "_law_parts" = some (some (.ref (He.ga K "_law_parts"))) := of_decide_eq_true (c.fact 0 44)
  obtain ⟨_, _, _, kv_l23, _, _, _, _, _, l23, cc_l23⟩ := c.def_ 22 (d := ⟨fun K => (He.ga K "_law_parts"), "_law_parts", "_law_parts", (defArgs s_L_parts), (defBody s_L_parts), (defScope s_L_parts)⟩) (by rfl)
  have k23 : PySem.W.keepIn K (.ref (He.ga K "_law_parts")) = true := c.fact 0 45
  have a24 : PySem.W.nsIn K mainGlobals "_law_tree_text" = some (some (.ref (He.ga K "_law_tree_text"))) := of_decide_eq_true (c.fact 0 46)
  obtain ⟨_, _, _, kv_l24, _, _, _, _, _, l24, cc_l24⟩ := c.def_ 23 (d := ⟨fun K => (He.ga K "_law_tree_text"), "_law_tree_text", "_law_tree_text", (defArgs s_L_tree_text), (defBody s_L_tree_text), (defScope s_L_tree_text)⟩) (by rfl)
  have k24 : PySem.W.keepIn K (.ref (He.ga K "_law_tree_text")) = true := c.fact 0 47
  have a25 : PySem.W.nsIn K mainGlobals "_law_table_text" = some (some (.ref (He.ga K "_law_table_text"))) := of_decide_eq_true (c.fact 0 48)
  obtain ⟨_, _, _, kv_l25, _, _, _, _, _, l25, cc_l25⟩ := c.def_ 24 (d := ⟨fun K => (He.ga K "_law_table_text"), "_law_table_text", "_law_table_text", (defArgs s_L_table_text), (defBody s_L_table_text), (defScope s_L_table_text)⟩) (by rfl)
  have k25 : PySem.W.keepIn K (.ref (He.ga K "_law_table_text")) = true := c.fact 0 49
  have a26 : PySem.W.nsIn K mainGlobals "_law_ladder" = some (some (.ref (He.ga K "_law_ladder"))) := of_decide_eq_true (c.fact 0 50)
  obtain ⟨_, _, _, kv_l26, _, _, _, _, _, l26, cc_l26⟩ := c.def_ 25 (d := ⟨fun K => (He.ga K "_law_ladder"), "_law_ladder", "_law_ladder", (defArgs s_L_ladder), (defBody s_L_ladder), (defScope s_L_ladder)⟩) (by rfl)
  have k26 : PySem.W.keepIn K (.ref (He.ga K "_law_ladder")) = true := c.fact 0 51
  have a27 : PySem.W.nsIn K mainGlobals "_law_table_right" = some (some (.ref (He.ga K "_law_table_right"))) := of_decide_eq_true (c.fact 0 52)
  obtain ⟨_, _, _, kv_l27, _, _, _, _, _, l27, cc_l27⟩ := c.def_ 26 (d := ⟨fun K => (He.ga K "_law_table_right"), "_law_table_right", "_law_table_right", (defArgs s_L_table_right), (defBody s_L_table_right), (defScope s_L_table_right)⟩) (by rfl)
  have k27 : PySem.W.keepIn K (.ref (He.ga K "_law_table_right")) = true := c.fact 0 53
  have a28 : PySem.W.nsIn K mainGlobals "_law_tree_right" = some (some (.ref (He.ga K "_law_tree_right"))) := of_decide_eq_true (c.fact 0 54)
  obtain ⟨_, _, _, kv_l28, _, _, _, _, _, l28, cc_l28⟩ := c.def_ 27 (d := ⟨fun K => (He.ga K "_law_tree_right"), "_law_tree_right", "_law_tree_right", (defArgs s_L_tree_right), (defBody s_L_tree_right), (defScope s_L_tree_right)⟩) (by rfl)
  have k28 : PySem.W.keepIn K (.ref (He.ga K "_law_tree_right")) = true := c.fact 0 55
  have a29 : PySem.W.nsIn K mainGlobals "law" = some (some (.ref (He.ga K "law"))) := of_decide_eq_true (c.fact 0 56)
  obtain ⟨_, _, _, kv_l29, _, _, _, _, _, l29, cc_l29⟩ := c.def_ 28 (d := ⟨fun K => (He.ga K "law"), "law", "law", (defArgs s_law), (defBody s_law), (defScope s_law)⟩) (by rfl)
  have k29 : PySem.W.keepIn K (.ref (He.ga K "law")) = true := c.fact 0 57
  have n_ITEMS : PySem.W.nsIn K mainGlobals "ITEMS" = some (some (.int 12 (tkG K "ITEMS"))) := of_decide_eq_true (c.fact 0 58)
  have n_LEVEL : PySem.W.nsIn K mainGlobals "LEVEL" = some (some (.int 1000000000000 (tkG K "LEVEL"))) := of_decide_eq_true (c.fact 0 59)
  have n_DIGITS : PySem.W.nsIn K mainGlobals "DIGITS" = some (some (.int 13 (tkG K "DIGITS"))) := of_decide_eq_true (c.fact 0 60)
  have z1 : PySem.W.nsIn K mainGlobals "len" = some none := of_decide_eq_true (c.fact 0 61)
  have z2 : PySem.W.nsIn K mainGlobals "list" = some none := of_decide_eq_true (c.fact 0 62)
  have z3 : PySem.W.nsIn K mainGlobals "int" = some none := of_decide_eq_true (c.fact 0 63)
  have z4 : PySem.W.nsIn K mainGlobals "range" = some none := of_decide_eq_true (c.fact 0 64)
  have z5 : PySem.W.nsIn K mainGlobals "sorted" = some none := of_decide_eq_true (c.fact 0 65)
  have z6 : PySem.W.nsIn K mainGlobals "set" = some none := of_decide_eq_true (c.fact 0 66)
  have z7 : PySem.W.nsIn K mainGlobals "tuple" = some none := of_decide_eq_true (c.fact 0 67)
  have z8 : PySem.W.nsIn K mainGlobals "min" = some none := of_decide_eq_true (c.fact 0 68)
  have z9 : PySem.W.nsIn K mainGlobals "max" = some none := of_decide_eq_true (c.fact 0 69)
  have z10 : PySem.W.nsIn K mainGlobals "isinstance" = some none := of_decide_eq_true (c.fact 0 70)
  have z11 : PySem.W.nsIn K mainGlobals "bool" = some none := of_decide_eq_true (c.fact 0 71)
  have z12 : PySem.W.nsIn K mainGlobals "str" = some none := of_decide_eq_true (c.fact 0 72)
  have z13 : PySem.W.nsIn K mainGlobals "all" = some none := of_decide_eq_true (c.fact 0 73)
  have z14 : PySem.W.nsIn K mainGlobals "zip" = some none := of_decide_eq_true (c.fact 0 74)
  have z15 : PySem.W.nsIn K mainGlobals "repr" = some none := of_decide_eq_true (c.fact 0 75)
  have z16 : PySem.W.nsIn K mainGlobals "enumerate" = some none := of_decide_eq_true (c.fact 0 76)
  have z17 : PySem.W.nsIn K mainGlobals "abs" = some none := of_decide_eq_true (c.fact 0 77)
  have z18 : PySem.W.nsIn K mainGlobals "sum" = some none := of_decide_eq_true (c.fact 0 78)
  have z19 : PySem.W.nsIn K mainGlobals "dict" = some none := of_decide_eq_true (c.fact 0 79)
  exact all_mk (l := PySem.Challenge.rw_mergelevels_k78_texts_of_tables_and_tree) X G hfa a1 l1 cc_l1 k1 a2 l2 cc_l2 k2 a3 l3 cc_l3 k3 a4 l4 cc_l4 k4 a5 l5 cc_l5 k5 a6 l6 cc_l6 k6 a7 l7 cc_l7 k7 a8 l8 cc_l8 k8 a9 l9 cc_l9 k9 a10 l10 cc_l10 k10 a11 l11 cc_l11 k11 a12 l12 cc_l12 k12 a13 l13 cc_l13 k13 a14 l14 cc_l14 k14 a15 l15 cc_l15 k15 a16 l16 cc_l16 k16 a17 l17 cc_l17 k17 a18 l18 cc_l18 k18 a19 l19 cc_l19 k19 a20 l20 cc_l20 k20 a21 l21 cc_l21 k21 a22 l22 cc_l22 k22 a23 l23 cc_l23 k23 a24 l24 cc_l24 k24 a25 l25 cc_l25 k25 a26 l26 cc_l26 k26 a27 l27 cc_l27 k27 a28 l28 cc_l28 k28 a29 l29 cc_l29 k29 n_ITEMS n_LEVEL n_DIGITS z1 z2 z3 z4 z5 z6 z7 z8 z9 z10 z11 z12 z13 z14 z15 z16 z17 z18 z19
end Ml
open PySem PySem.W PySem.Calls PyProof.Rows
set_option maxHeartbeats 0 in
theorem PySem.Challenge.cw_mergelevels_k78_texts_of_tables_and_tree_holds : PySem.Challenge.rw_mergelevels_k78_texts_of_tables_and_tree.Holds := by
  w_on; o_law
  refine HandSHeadRun.head_any (r := OpenLaw.row PySem.Challenge.rw_mergelevels_k78_texts_of_tables_and_tree) (q := view (OpenLaw.row PySem.Challenge.rw_mergelevels_k78_texts_of_tables_and_tree).prog [37]) (H := Ml.hk) (ob := Ml.ob3 5 Ml.hfs Ml.hfn Ml.hhx) (M := 20000) (loose := Ml.hlo) (d := HandSHeadRun.topDef (OpenLaw.row PySem.Challenge.rw_mergelevels_k78_texts_of_tables_and_tree).prog 37) (kwd := []) Ml.ob3_eq
    (by kernel_rfl) (fun s => by kernel_rfl) Ml.hrun (by kernel_rfl) (by kernel_rfl) (by kernel_rfl) (by rfl) (by first | assumption | decide +kernel) (by decide +kernel) ⟨rfl, rfl, rfl, rfl, rfl, by decide +kernel⟩ ?hw ?hc
  case hw => w_witness2
  case hc =>
    refine Ml.walk_GE (l := PySem.Challenge.rw_mergelevels_k78_texts_of_tables_and_tree) (n := 63) (k := 15) (x := "_law_script") rfl (by decide) (by kernel_rfl) ⟨rfl, by decide, by decide⟩ ?F
    intro w mg fa h Y G hmg0
    obtain ⟨K, KX, c, ch⟩ := Y
    have hmg : mg ("law" : PySem.Str) = some (.ref fa) := by
      have e : (HandSHeadRun.topDef (OpenLaw.row PySem.Challenge.rw_mergelevels_k78_texts_of_tables_and_tree).prog 37).name = ("law" : PySem.Str) := by kernel_rfl
      rw [← e]
      exact hmg0
    exact ⟨K, Ml.sp_law, KX, fun H a ns hl hS => ⟨a, ns, rfl, hS, hl, fun _ => rfl⟩, Ml.hfacts KX G hmg c ch⟩

import PyProof.Rows.All
import Wide.All
import OpenK.AllK
import Wide.FinOn
import HandS.Base
import HandS.Call
import HandS.List
import HandS.Comp
import HandS.Ends
import HandS.Iter
import HandS.NoneIn
import HandS.SetFor
import HandS.IsInst
import HandS.Zip
import HandS.Words
import PyProof.ReprRoads
import HandS.Style
import HandS.TupAny
import HandS.Zip0
import PyProof.Draws
import PyProof.EnumMake
import KE.GoesZip
import KE.GoesMore
import KE.KExcInit
import HandS.Exc
import HandS.ExcOwn
import HandS.WordsExc
import HandS.ExcField
import HandS.DictComp
import HandS.RaiseFrom
import KE.DataMinMax
import KE.LtData
import HandS.SortKw
import HandS.Defaults
import HandS.Star
import HandS.TupMul
import KE.KIndexOf
import HandS.Text
import HandS.StrMore
import HandS.FStr
import HandS.Replace
import KE.IntTextLaws
import HandS.Dict
import HandS.Deep
import KE.KRevSl
import PyProof.P3In
import PyProof.CallFns
import HandS.Strs
import HandS.SetBool
import HandS.SortInts
import PyProof.SetRoads
import KE.KParD
import HandS.Walk
import HandS.ReplaceLit
import PyProof.StrLawsRepr
import PyProof.ReprReads
import PyProof.ReprDict
import HandS.ReplaceList
import KE.KExcIs
import HandS.ExcIs
import KE.GoesEnumKw
import HandS.IterVal
import HandS.TupSets
import KE.SortData
import KE.KDictZip
import HandS.RaiseMore
import HandS.TryOnly
import HandS.Property
import KE.KUnpackStar
import HandS.Head2
import HandS.HeadEnd
import HandS.HeadHook2
import HandS.Wide
import HandS.Codes
import HandS.Conv
import HandS.Flow
import PySem.Challenge.RW_mergelevels_k79_other_texts_of_tables
set_option Elab.async false
set_option linter.all false
set_option maxRecDepth 100000
set_option maxHeartbeats 4000000
namespace Ml
open PySem PySem.Spec PyProof.Rows L2
/-! ### heaps -/
def Sm (H H' : Hp) : Prop := ∀ b o, H b = some o → H' b = some o
theorem Sm.refl (H : Hp) : Sm H H := fun _ _ h => h
theorem Sm.trans {H H1 H2 : Hp} (a : Sm H H1) (b : Sm H1 H2) : Sm H H2 := fun c o h => b c o (a c o h)
theorem Sm.new {H : Hp} {p : Addr} {o : HO} (h : H p = none) : Sm H (upd H p o) := fun b x e => by
  rw [upd_ne (ne_of_none e h)]
  exact e
theorem Sm.free {H H' : Hp} (e : Sm H H') {l : Addr} (h : H' l = none) : H l = none := by
  cases q : H l with
  | none => rfl
  | some o => rw [e l o q] at h; cases h
theorem Sm.rd {H H' : Hp} {a : Addr} {u : HO} (e : Sm H H') (h : Rd H a u) : Rd H' a u := by
  rcases h with h | ⟨o, h⟩
  · exact .inl (e _ _ h)
  · exact .inr ⟨o, e _ _ h⟩
theorem Sm.sqL {K : PySem.W.Frag} {H H' : Hp} {a : Addr} {xs : List V} (e : Sm H H') (h : SqL K H a xs) : SqL K H' a xs := by
  rcases h with h | h
  · exact .inl (e.rd h)
  · exact .inr h
theorem Sm.sqT {K : PySem.W.Frag} {H H' : Hp} {a : Addr} {xs : List V} (e : Sm H H') (h : SqT K H a xs) : SqT K H' a xs := by
  rcases h with h | h
  · exact .inl (e.rd h)
  · exact .inr h
/-- all but the two places of a drawing stays -/
def Kp (d r : Addr) (H H' : Hp) : Prop := ∀ b o, H b = some o → b ≠ d → b ≠ r → H' b = some o
theorem Kp.refl (d r : Addr) (H : Hp) : Kp d r H H := fun _ _ h _ _ => h
theorem Kp.trans {d r : Addr} {H H1 H2 : Hp} (a : Kp d r H H1) (b : Kp d r H1 H2) : Kp d r H H2 := fun c o h h1 h2 => b c o (a c o h h1 h2) h1 h2
theorem Sm.kp {d r : Addr} {H H' : Hp} (a : Sm H H') : Kp d r H H' := fun c o h _ _ => a c o h
theorem Kp.new {d r : Addr} {H : Hp} {p : Addr} {o : HO} (h : H p = none) : Kp d r H (upd H p o) := (Sm.new h).kp
theorem Kp.sqL {K : PySem.W.Frag} {d r : Addr} {H H' : Hp} {a : Addr} {xs : List V} (e : Kp d r H H') (h1 : a ≠ d) (h2 : a ≠ r) (h : SqL K H a xs) : SqL K H' a xs := by
  rcases h with (h | ⟨o, h⟩) | h
  · exact .inl (.inl (e _ _ h h1 h2))
  · exact .inl (.inr ⟨o, e _ _ h h1 h2⟩)
  · exact .inr h
/-- what is drawn from: the cells, how often, the rests -/
structure Dr (H : Hp) (d c r : Addr) (n : Nat) : Prop where
  ex : ∃ (cells rests : List Int) (t : Nat), H d = some (.lst [.ref c, .int (t : Int), .ref r]) ∧ H c = some (.lst (cells.map V.int)) ∧ H r = some (.lst (rests.map V.int)) ∧
    cells.length = rests.length ∧ 0 < cells.length ∧ cells.length ≤ 64 ∧ t ≤ n ∧ ∀ x ∈ rests, 0 ≤ x
  dc : d ≠ c
  dr : d ≠ r
  cr : c ≠ r
theorem Dr.d_lst {H : Hp} {d c r : Addr} {n : Nat} (h : Dr H d c r n) : ∃ xs, H d = some (.lst xs) := by
  obtain ⟨_, _, _, h1, _⟩ := h.ex
  exact ⟨_, h1⟩
theorem Dr.r_lst {H : Hp} {d c r : Addr} {n : Nat} (h : Dr H d c r n) : ∃ xs, H r = some (.lst xs) := by
  obtain ⟨_, _, _, _, _, h1, _⟩ := h.ex
  exact ⟨_, h1⟩
theorem Dr.c_lst {H : Hp} {d c r : Addr} {n : Nat} (h : Dr H d c r n) : ∃ xs, H c = some (.lst xs) := by
  obtain ⟨_, _, _, _, h1, _⟩ := h.ex
  exact ⟨_, h1⟩
theorem Dr.mono {H : Hp} {d c r : Addr} {n m : Nat} (h : Dr H d c r n) (e : n ≤ m) : Dr H d c r m := by
  obtain ⟨⟨cs, rs, t, h1, h2, h3, h4, h5, h6, h7, h8⟩, a, b, k⟩ := h
  exact ⟨⟨cs, rs, t, h1, h2, h3, h4, h5, h6, Nat.le_trans h7 e, h8⟩, a, b, k⟩
theorem Dr.same {H H' : Hp} {d c r : Addr} {n : Nat} (h : Dr H d c r n) (e : Sm H H') : Dr H' d c r n := by
  obtain ⟨⟨cs, rs, t, h1, h2, h3, h4⟩, a, b, k⟩ := h
  exact ⟨⟨cs, rs, t, e _ _ h1, e _ _ h2, e _ _ h3, h4⟩, a, b, k⟩
/-- an object that is stored into, elsewhere -/
theorem Dr.upd {H : Hp} {d c r p : Addr} {n : Nat} {o : HO} (h : Dr H d c r n) (h1 : p ≠ d) (h2 : p ≠ c) (h3 : p ≠ r) : Dr (L2.upd H p o) d c r n := by
  obtain ⟨⟨cs, rs, t, e1, e2, e3, e4⟩, a, b, k⟩ := h
  refine ⟨⟨cs, rs, t, ?_, ?_, ?_, e4⟩, a, b, k⟩
  · rw [upd_ne h1.symm]; exact e1
  · rw [upd_ne h2.symm]; exact e2
  · rw [upd_ne h3.symm]; exact e3
theorem Dr.new {H : Hp} {d c r p : Addr} {n : Nat} {o : HO} (h : Dr H d c r n) (hp : H p = none) : Dr (L2.upd H p o) d c r n := h.same (Sm.new hp)
theorem Dr.ne {H : Hp} {d c r p : Addr} {n : Nat} (h : Dr H d c r n) (hp : H p = none) : p ≠ d ∧ p ≠ c ∧ p ≠ r := by
  obtain ⟨x, h1⟩ := h.d_lst
  obtain ⟨y, h2⟩ := h.c_lst
  obtain ⟨z, h3⟩ := h.r_lst
  exact ⟨(ne_of_none h1 hp).symm, (ne_of_none h2 hp).symm, (ne_of_none h3 hp).symm⟩
theorem Dr.kpT {K : PySem.W.Frag} {H H' : Hp} {d c r a : Addr} {n : Nat} {xs : List V} (h : Dr H d c r n) (e : Kp d r H H') (hs : SqT K H a xs) : SqT K H' a xs := by
  obtain ⟨x, h1⟩ := h.d_lst
  obtain ⟨y, h2⟩ := h.r_lst
  rcases hs with (q | ⟨o, q⟩) | q
  · exact .inl (.inl (e _ _ q (ne_of q h1 (by intro z; cases z)) (ne_of q h2 (by intro z; cases z))))
  · exact .inl (.inr ⟨o, e _ _ q (ne_of q h1 (by intro z; cases z)) (ne_of q h2 (by intro z; cases z))⟩)
  · exact .inr q
/-! ### tuples of ints, tables -/
def IT (K : PySem.W.Frag) (H : Hp) (v : V) (ns : List Int) : Prop := ∃ p, v = .ref p ∧ SqT K H p (ns.map V.int)
def Rows (K : PySem.W.Frag) (H : Hp) (vs : List V) (t : List (List Int)) : Prop := vs.length = t.length ∧ ∀ (i : Nat) v ns, vs[i]? = some v → t[i]? = some ns → IT K H v ns
def TT (K : PySem.W.Frag) (H : Hp) (v : V) (t : List (List Int)) : Prop := ∃ p vs, v = .ref p ∧ SqT K H p vs ∧ Rows K H vs t
theorem IT.same {K : PySem.W.Frag} {H H' : Hp} {v : V} {ns : List Int} (h : IT K H v ns) (e : Sm H H') : IT K H' v ns := by
  obtain ⟨p, h1, h2⟩ := h
  exact ⟨p, h1, e.sqT h2⟩
theorem Rows.same {K : PySem.W.Frag} {H H' : Hp} {vs : List V} {t : List (List Int)} (h : Rows K H vs t) (e : Sm H H') : Rows K H' vs t :=
  ⟨h.1, fun i v ns a b => (h.2 i v ns a b).same e⟩
theorem TT.same {K : PySem.W.Frag} {H H' : Hp} {v : V} {t : List (List Int)} (h : TT K H v t) (e : Sm H H') : TT K H' v t := by
  obtain ⟨p, vs, h1, h2, h3⟩ := h
  exact ⟨p, vs, h1, e.sqT h2, h3.same e⟩
theorem IT.kp {K : PySem.W.Frag} {H H' : Hp} {d c r : Addr} {n : Nat} {v : V} {ns : List Int} (h : IT K H v ns) (g : Dr H d c r n) (e : Kp d r H H') : IT K H' v ns := by
  obtain ⟨p, h1, h2⟩ := h
  exact ⟨p, h1, g.kpT e h2⟩
theorem Rows.kp {K : PySem.W.Frag} {H H' : Hp} {d c r : Addr} {n : Nat} {vs : List V} {t : List (List Int)} (h : Rows K H vs t) (g : Dr H d c r n) (e : Kp d r H H') : Rows K H' vs t :=
  ⟨h.1, fun i v ns a b => (h.2 i v ns a b).kp g e⟩
theorem TT.kp {K : PySem.W.Frag} {H H' : Hp} {d c r : Addr} {n : Nat} {v : V} {t : List (List Int)} (h : TT K H v t) (g : Dr H d c r n) (e : Kp d r H H') : TT K H' v t := by
  obtain ⟨p, vs, h1, h2, h3⟩ := h
  exact ⟨p, vs, h1, g.kpT e h2, h3.kp g e⟩
/-- stores into a list -/
theorem sqT_upd {K : PySem.W.Frag} {H : Hp} {a p : Addr} {xs ys zs : List V} (hp : H p = some (.lst ys)) (hs : SqT K H a xs) : SqT K (L2.upd H p (.lst zs)) a xs := by
  rcases hs with (q | ⟨o, q⟩) | q
  · exact .inl (.inl (by rw [upd_ne (ne_of q hp (by intro z; cases z))]; exact q))
  · exact .inl (.inr ⟨o, by rw [upd_ne (ne_of q hp (by intro z; cases z))]; exact q⟩)
  · exact .inr q
theorem IT.upd {K : PySem.W.Frag} {H : Hp} {p : Addr} {ys zs : List V} {v : V} {ns : List Int} (h : IT K H v ns) (hp : H p = some (.lst ys)) : IT K (L2.upd H p (.lst zs)) v ns := by
  obtain ⟨q, h1, h2⟩ := h
  exact ⟨q, h1, sqT_upd hp h2⟩
theorem Rows.upd {K : PySem.W.Frag} {H : Hp} {p : Addr} {ys zs : List V} {vs : List V} {t : List (List Int)} (h : Rows K H vs t) (hp : H p = some (.lst ys)) : Rows K (L2.upd H p (.lst zs)) vs t :=
  ⟨h.1, fun i v ns a b => (h.2 i v ns a b).upd hp⟩
theorem Rows.nil {K : PySem.W.Frag} {H : Hp} : Rows K H [] [] := ⟨rfl, fun i v ns a _ => by simp at a⟩
theorem Rows.snoc {K : PySem.W.Frag} {H : Hp} {vs : List V} {t : List (List Int)} {v : V} {ns : List Int} (h : Rows K H vs t) (q : IT K H v ns) : Rows K H (vs ++ [v]) (t ++ [ns]) := by
  refine ⟨by rw [List.length_append, List.length_append, h.1]; rfl, fun i u ms a b => ?_⟩
  by_cases hi : i < vs.length
  · rw [List.getElem?_append_left hi] at a
    rw [List.getElem?_append_left (by rw [← h.1]; exact hi)] at b
    exact h.2 i u ms a b
  · rw [List.getElem?_append_right (by omega)] at a
    rw [List.getElem?_append_right (by rw [← h.1]; omega), ← h.1] at b
    cases e : i - vs.length with
    | zero =>
      rw [e] at a b
      cases Option.some.inj a
      cases Option.some.inj b
      exact q
    | succ k => rw [e] at a; simp at a
theorem Rows.get {K : PySem.W.Frag} {H : Hp} {vs : List V} {t : List (List Int)} (h : Rows K H vs t) {i : Nat} (hi : i < t.length) : ∃ v p, vs[i]? = some v ∧ v = .ref p ∧ SqT K H p ((t.getD i []).map V.int) := by
  have h1 : i < vs.length := by rw [h.1]; exact hi
  have a : vs[i]? = some vs[i] := List.getElem?_eq_getElem h1
  have b : t[i]? = some t[i] := List.getElem?_eq_getElem hi
  obtain ⟨p, e, q⟩ := h.2 i _ _ a b
  refine ⟨_, p, a, e, ?_⟩
  rw [List.getD_eq_getElem?_getD, b]
  exact q
/-- a table's levels -/
def LvOk (x : Int) : Prop := 1 ≤ x ∧ x ≤ 1000000000000
def WT (t : List (List Int)) : Prop := ∀ (i : Nat) ns, t[i]? = some ns → ns.length = i ∧ ∀ x ∈ ns, LvOk x
def lev (t : List (List Int)) (i j : Nat) : Int := if i = j then 0 else (t.getD (max i j) []).getD (min i j) 0
theorem lev_comm (t : List (List Int)) (i j : Nat) : lev t i j = lev t j i := by
  unfold lev
  by_cases h : i = j
  · rw [if_pos h, if_pos h.symm]
  · rw [if_neg h, if_neg (fun e => h e.symm), Nat.max_comm, Nat.min_comm]
theorem WT.row {t : List (List Int)} (h : WT t) {i : Nat} (hi : i < t.length) : (t.getD i []).length = i ∧ ∀ x ∈ t.getD i [], LvOk x := by
  have b : t[i]? = some t[i] := List.getElem?_eq_getElem hi
  rw [List.getD_eq_getElem?_getD, b]
  exact h i _ b
theorem WT.lev {t : List (List Int)} (h : WT t) {i j : Nat} (hi : i < t.length) (hj : j < t.length) (hij : i ≠ j) : LvOk (lev t i j) := by
  unfold Ml.lev
  rw [if_neg hij]
  have hm : max i j < t.length := by omega
  obtain ⟨h1, h2⟩ := h.row hm
  have hl : min i j < (t.getD (max i j) []).length := by omega
  rw [List.getD_eq_getElem?_getD, List.getElem?_eq_getElem hl]
  exact h2 _ (List.getElem_mem hl)
theorem WT.nil : WT [] := fun i ns h => by simp at h
theorem WT.snoc {t : List (List Int)} {ns : List Int} (h : WT t) (h1 : ns.length = t.length) (h2 : ∀ x ∈ ns, LvOk x) : WT (t ++ [ns]) := by
  intro i ms q
  by_cases hi : i < t.length
  · rw [List.getElem?_append_left hi] at q
    exact h i ms q
  · rw [List.getElem?_append_right (by omega)] at q
    cases e : i - t.length with
    | zero =>
      rw [e] at q
      cases Option.some.inj q
      exact ⟨by omega, h2⟩
    | succ k => rw [e] at q; simp at q
theorem map_at {ns : List Int} {i : Nat} {x : Int} (h : ns[i]? = some x) : (ns.map V.int)[i]? = some (.int x) := by
  rw [List.getElem?_map, h]
  rfl
theorem getD_at {ns : List Int} {i : Nat} (h : i < ns.length) : ns[i]? = some (ns.getD i 0) := by
  rw [List.getD_eq_getElem?_getD, List.getElem?_eq_getElem h]
  rfl
end Ml
namespace Ml
open PySem PySem.Spec PyProof.Rows L2
theorem ixN_at {n j : Nat} (h : j < n) : ixN n (j : Int) = some j := by
  unfold ixN
  rw [if_pos (by omega), if_pos (by omega)]
  simp
end Ml
namespace Ml
open PySem PySem.Spec PyProof.Rows L2
/-! ### data at any depth -/
mutual
theorem Dp.same {K : PySem.W.Frag} {H H' : Hp} (e : Sm H H') : ∀ (d : PyData) (v : V), Dp K H v d → Dp K H' v d
  | .none, _, h => by cases h; exact .non
  | .bool b, _, h => by cases h; exact .bl b
  | .int i, _, h => by cases h; exact .int i
  | .str x, _, h => by cases h; exact .str x
  | .list ds, _, h => by
    cases h with
    | lst hs ha => exact .lst (e.sqL hs) (Dp.sameAll e ds _ ha)
  | .tuple ds, _, h => by
    cases h with
    | tup hs ha => exact .tup (e.sqT hs) (Dp.sameAll e ds _ ha)
  | .dict _, _, h => by cases h
theorem Dp.sameAll {K : PySem.W.Frag} {H H' : Hp} (e : Sm H H') : ∀ (ds : List PyData) (vs : List V), DpAll K H vs ds → DpAll K H' vs ds
  | [], _, h => by cases h; exact .nil
  | d :: ds, _, h => by
    cases h with
    | cons h1 h2 => exact .cons (Dp.same e d _ h1) (Dp.sameAll e ds _ h2)
end
theorem dp_ints {K : PySem.W.Frag} {H : Hp} : ∀ ns : List Int, DpAll K H (ns.map V.int) (ns.map PyData.int)
  | [] => .nil
  | n :: ns => .cons (.int n) (dp_ints ns)
theorem ty_tup {K : PySem.W.Frag} {H : Hp} {a : Addr} {xs : List V} (h : SqT K H a xs) : TyX K H (.ref a) (.type "tuple") := by
  rcases h with (h | ⟨o, h⟩) | ⟨o, its, n, h1, h2, _⟩
  · exact .base (.tup h)
  · exact .fTuple h
  · exact .kTuple h1 h2
def tyN : PyData → String
  | .none => "NoneType"
  | .bool _ => "bool"
  | .int _ => "int"
  | .str _ => "str"
  | .tuple _ => "tuple"
  | .list _ => "list"
  | .dict _ => "dict"
end Ml
namespace Ml
open PySem PySem.Spec PyProof.Rows L2
/-! ### pairs of items -/
/-- the pairs as tuples in the heap -/
def Prs (K : PySem.W.Frag) (H : Hp) (vs : List V) (ps : List (Nat × Nat)) : Prop := vs.length = ps.length ∧ ∀ (i : Nat) v p, vs[i]? = some v → ps[i]? = some p → ∃ a, v = .ref a ∧ SqT K H a [.int (p.1 : Int), .int (p.2 : Int)]
theorem Prs.nil {K : PySem.W.Frag} {H : Hp} : Prs K H [] [] := ⟨rfl, fun i v p a _ => by simp at a⟩
theorem Prs.same {K : PySem.W.Frag} {H H' : Hp} {vs : List V} {ps : List (Nat × Nat)} (h : Prs K H vs ps) (e : Sm H H') : Prs K H' vs ps :=
  ⟨h.1, fun i v p a b => let ⟨q, h1, h2⟩ := h.2 i v p a b; ⟨q, h1, e.sqT h2⟩⟩
theorem Prs.upd {K : PySem.W.Frag} {H : Hp} {p : Addr} {ys zs : List V} {vs : List V} {ps : List (Nat × Nat)} (h : Prs K H vs ps) (hp : H p = some (.lst ys)) : Prs K (L2.upd H p (.lst zs)) vs ps :=
  ⟨h.1, fun i v q a b => let ⟨r, h1, h2⟩ := h.2 i v q a b; ⟨r, h1, sqT_upd hp h2⟩⟩
theorem Prs.append {K : PySem.W.Frag} {H : Hp} {vs ws : List V} {ps qs : List (Nat × Nat)} (h : Prs K H vs ps) (g : Prs K H ws qs) : Prs K H (vs ++ ws) (ps ++ qs) := by
  refine ⟨by rw [List.length_append, List.length_append, h.1, g.1], fun i u p a b => ?_⟩
  by_cases hi : i < vs.length
  · rw [List.getElem?_append_left hi] at a
    rw [List.getElem?_append_left (by rw [← h.1]; exact hi)] at b
    exact h.2 i u p a b
  · rw [List.getElem?_append_right (by omega)] at a
    rw [List.getElem?_append_right (by rw [← h.1]; omega), ← h.1] at b
    exact g.2 _ u p a b
theorem Prs.one {K : PySem.W.Frag} {H : Hp} {a : Addr} {i j : Nat} (h : SqT K H a [.int (i : Int), .int (j : Int)]) : Prs K H [.ref a] [(i, j)] := by
  refine ⟨rfl, fun k v p e1 e2 => ?_⟩
  cases k with
  | zero =>
    cases Option.some.inj e1
    cases Option.some.inj e2
    exact ⟨a, rfl, h⟩
  | succ k => simp at e1
/-! ### three levels -/
def Ev3 (a b c : Int) : Prop := (a = b ∧ c ≤ a) ∨ (a = c ∧ b ≤ a) ∨ (b = c ∧ a ≤ b)
/-- three items of a table -/
def Ev (t : List (List Int)) (i j k : Nat) : Prop := Ev3 (lev t i j) (lev t i k) (lev t j k)
def Triple (n i j k : Nat) : Prop := i < j ∧ j < k ∧ k < n
def AllEven (t : List (List Int)) : Prop := ∀ i j k, Triple t.length i j k → Ev t i j k
end Ml
namespace Ml
open PySem PySem.Spec PyProof.Rows L2
/-! ### lists of ints compared -/
/-! ### what being nested means -/
def Ultra (t : List (List Int)) : Prop := ∀ i j k, i < t.length → j < t.length → k < t.length → lev t i k ≤ max (lev t i j) (lev t j k)
theorem lev_self (t : List (List Int)) (i : Nat) : lev t i i = 0 := by
  unfold lev
  rw [if_pos rfl]
theorem lev_nn {t : List (List Int)} (h : WT t) {i j : Nat} (hi : i < t.length) (hj : j < t.length) : 0 ≤ lev t i j := by
  by_cases e : i = j
  · rw [e, lev_self]
    exact Int.le_refl 0
  · have := (h.lev hi hj e).1
    omega
theorem Ev.sym {t : List (List Int)} {i j k : Nat} (h : Ev t i j k) : lev t i k ≤ max (lev t i j) (lev t j k) ∧ lev t i j ≤ max (lev t i k) (lev t j k) ∧ lev t j k ≤ max (lev t i j) (lev t i k) := by
  unfold Ev Ev3 at h
  omega
theorem ultra_of_even {t : List (List Int)} (hW : WT t) (h : AllEven t) : Ultra t := by
  intro i j k hi hj hk
  have n1 := lev_nn hW hi hj
  have n2 := lev_nn hW hj hk
  by_cases e1 : i = j
  · subst e1
    rw [lev_self]
    omega
  by_cases e2 : j = k
  · subst e2
    rw [lev_self]
    omega
  by_cases e3 : i = k
  · subst e3
    rw [lev_self]
    omega
  have c1 := lev_comm t j i
  have c2 := lev_comm t k j
  have c3 := lev_comm t k i
  have key : ∀ a b c, Triple t.length a b c → _ := fun a b c hT => (h a b c hT).sym
  unfold Triple at key
  rcases Nat.lt_or_gt_of_ne e1 with a | a <;> rcases Nat.lt_or_gt_of_ne e2 with b | b <;> rcases Nat.lt_or_gt_of_ne e3 with c | c
  · have := key i j k ⟨a, b, hk⟩; omega
  · omega
  · have := key i k j ⟨c, b, hj⟩; omega
  · have := key k i j ⟨c, a, hj⟩; omega
  · have := key j i k ⟨a, c, hk⟩; omega
  · have := key j k i ⟨b, c, hi⟩; omega
  · omega
  · have := key k j i ⟨b, a, hi⟩; omega
theorem even_of_ultra {t : List (List Int)} (h : Ultra t) : AllEven t := by
  intro i j k ⟨h1, h2, h3⟩
  have a := h i j k (by omega) (by omega) h3
  have b := h i k j (by omega) h3 (by omega)
  have c := h j i k (by omega) (by omega) h3
  rw [lev_comm t k j] at b
  rw [lev_comm t j i] at c
  unfold Ev Ev3
  omega
end Ml
namespace Ml
open PySem PySem.Spec PyProof.Rows L2
/-! ### lowest ways -/
def fw (f : Nat → Nat → Int) : Nat → Nat → Nat → Int
  | 0, i, j => f i j
  | k + 1, i, j => min (fw f k i j) (max (fw f k i k) (fw f k k j))
/-- walks with steps at most h -/
inductive Wk (f : Nat → Nat → Int) (n : Nat) (h : Int) (i : Nat) : Nat → Prop
  | refl : Wk f n h i i
  | step {j k : Nat} : Wk f n h i j → j < n → k < n → f j k ≤ h → Wk f n h i k
theorem Wk.mono {f : Nat → Nat → Int} {n : Nat} {h h' : Int} {i j : Nat} (w : Wk f n h i j) (e : h ≤ h') : Wk f n h' i j := by
  induction w with
  | refl => exact .refl
  | step _ a b c ih => exact ih.step a b (Int.le_trans c e)
theorem Wk.trans {f : Nat → Nat → Int} {n : Nat} {h : Int} {i j k : Nat} (w : Wk f n h i j) (v : Wk f n h j k) : Wk f n h i k := by
  induction v with
  | refl => exact w
  | step _ a b c ih => exact ih.step a b c
/-! ### joining levels of a table -/
def jn (t : List (List Int)) (i j : Nat) : Int := fw (lev t) t.length i j
/-! ### simple paths -/
structure Simple (n : Nat) (p : List Nat) (i j : Nat) : Prop where
  hd : p.head? = some i
  lst : p.getLast? = some j
  nod : p.Nodup
  lt : ∀ x ∈ p, x < n
def Steps (f : Nat → Nat → Int) (h : Int) (p : List Nat) : Prop := ∀ (m a b : Nat), p[m]? = some a → p[m + 1]? = some b → f a b ≤ h
end Ml
namespace Ml
open PySem PySem.Spec PyProof.Rows L2
/-! ### comprehensions over two at once -/
/-! ### lists of lists of ints, each row its own object -/
def Rws (H : Hp) (ps : List Addr) (g : List (List Int)) : Prop := ps.length = g.length ∧ ps.Nodup ∧ ∀ (i : Nat) p ns, ps[i]? = some p → g[i]? = some ns → H p = some (.lst (ns.map V.int))
theorem Rws.same {H H' : Hp} {ps : List Addr} {g : List (List Int)} (h : Rws H ps g) (e : Sm H H') : Rws H' ps g := ⟨h.1, h.2.1, fun i p ns a b => e _ _ (h.2.2 i p ns a b)⟩
theorem Rws.nil {H : Hp} : Rws H [] [] := ⟨rfl, List.nodup_nil, fun i v ns a _ => by simp at a⟩
theorem Rws.at {H : Hp} {ps : List Addr} {g : List (List Int)} (h : Rws H ps g) {p : Addr} (hp : p ∈ ps) : ∃ ns : List Int, H p = some (.lst (ns.map V.int)) := by
  obtain ⟨i, hi, e⟩ := List.getElem_of_mem hp
  have hg : i < g.length := by rw [← h.1]; exact hi
  exact ⟨g[i], h.2.2 i p g[i] (by rw [List.getElem?_eq_getElem hi, e]) (List.getElem?_eq_getElem hg)⟩
theorem Rws.upd {H : Hp} {ps : List Addr} {g : List (List Int)} {o : Addr} {x : HO} (h : Rws H ps g) (ho : o ∉ ps) : Rws (L2.upd H o x) ps g :=
  ⟨h.1, h.2.1, fun i p ns a b => by
    have ne : p ≠ o := fun e => ho (by rw [← e]; exact List.mem_of_getElem? a)
    rw [upd_ne ne]
    exact h.2.2 i p ns a b⟩
theorem Rws.snoc {H : Hp} {ps : List Addr} {g : List (List Int)} {q : Addr} {ns : List Int} (h : Rws H ps g) (hn : q ∉ ps) (hq : H q = some (.lst (ns.map V.int))) : Rws H (ps ++ [q]) (g ++ [ns]) := by
  refine ⟨by rw [List.length_append, List.length_append, h.1]; rfl, ?_, fun i p ms a b => ?_⟩
  · rw [List.nodup_append]
    refine ⟨h.2.1, by simp, fun a ha b hb => ?_⟩
    rw [List.mem_singleton.mp hb]
    exact fun e => hn (e ▸ ha)
  · by_cases hi : i < ps.length
    · rw [List.getElem?_append_left hi] at a
      rw [List.getElem?_append_left (by rw [← h.1]; exact hi)] at b
      exact h.2.2 i p ms a b
    · rw [List.getElem?_append_right (by omega)] at a
      rw [List.getElem?_append_right (by rw [← h.1]; omega), ← h.1] at b
      cases e : i - ps.length with
      | zero =>
        rw [e] at a b
        cases Option.some.inj a
        cases Option.some.inj b
        exact hq
      | succ k => rw [e] at a; simp at a
theorem Rws.get {H : Hp} {ps : List Addr} {g : List (List Int)} (h : Rws H ps g) {i : Nat} (hi : i < g.length) : ∃ p, ps[i]? = some p ∧ H p = some (.lst ((g.getD i []).map V.int)) := by
  have h1 : i < ps.length := by rw [h.1]; exact hi
  refine ⟨ps[i], List.getElem?_eq_getElem h1, ?_⟩
  rw [List.getD_eq_getElem?_getD, List.getElem?_eq_getElem hi]
  exact h.2.2 i _ _ (List.getElem?_eq_getElem h1) (List.getElem?_eq_getElem hi)
/-- a row stored into -/
theorem Rws.set {H : Hp} {ps : List Addr} {g : List (List Int)} {i : Nat} {p : Addr} {ns : List Int} (h : Rws H ps g) (hp : ps[i]? = some p) : Rws (L2.upd H p (.lst (ns.map V.int))) ps (g.set i ns) := by
  refine ⟨by rw [List.length_set]; exact h.1, h.2.1, fun j q ms a b => ?_⟩
  by_cases e : j = i
  · subst e
    rw [hp] at a
    cases Option.some.inj a
    have hl : j < g.length := by rw [← h.1]; exact (List.getElem?_eq_some_iff.mp hp).1
    rw [List.getElem?_set_self hl] at b
    cases Option.some.inj b
    exact upd_same
  · have ne : q ≠ p := fun z => by
      subst z
      have l1 := (List.getElem?_eq_some_iff.mp a)
      have l2 := (List.getElem?_eq_some_iff.mp hp)
      obtain ⟨l1, e1⟩ := l1
      obtain ⟨l2, e2⟩ := l2
      have nd := List.pairwise_iff_getElem.mp h.2.1
      rcases Nat.lt_or_gt_of_ne e with z | z
      · exact nd j i l1 l2 z (e1.trans e2.symm)
      · exact nd i j l2 l1 z (e2.trans e1.symm)
    rw [upd_ne ne]
    rw [List.getElem?_set_ne (fun z => e z.symm)] at b
    exact h.2.2 j q ms a b
/-! ### squares -/
theorem range_map_succ (f : Nat → Int) (n : Nat) : (List.range (n + 1)).map f = (List.range n).map f ++ [f n] := by
  rw [List.range_succ, List.map_append]
  rfl
end Ml
namespace Ml
open PySem PySem.Spec PyProof.Rows L2
/-! ### triangles -/
def tri (F : Nat → Nat → Int) (n : Nat) : List (List Int) := (List.range n).map fun i => (List.range i).map (F i)
/-- the table of the joining levels -/
def jtab (t : List (List Int)) : List (List Int) := tri (jn t) t.length
end Ml
namespace Ml
open PySem PySem.Spec PyProof.Rows L2
/-! ### repr of data -/
/-- a row, a table as data -/
def rowD (ns : List Int) : PyData := .tuple (ns.map PyData.int)
def tabD (t : List (List Int)) : PyData := .tuple (t.map rowD)
theorem IT.dp {K : PySem.W.Frag} {H : Hp} {v : V} {ns : List Int} (h : IT K H v ns) : Dp K H v (rowD ns) := by
  obtain ⟨p, rfl, hs⟩ := h
  exact .tup hs (dp_ints ns)
theorem rows_dp {K : PySem.W.Frag} {H : Hp} : ∀ {vs : List V} {t : List (List Int)}, Rows K H vs t → DpAll K H vs (t.map rowD)
  | [], [], _ => .nil
  | [], _ :: _, h => by have := h.1; simp at this
  | _ :: _, [], h => by have := h.1; simp at this
  | v :: vs, ns :: t, h => by
    refine .cons (h.2 0 v ns rfl rfl).dp (rows_dp (vs := vs) (t := t) ⟨by have := h.1; simpa using this, fun i u ms a b => h.2 (i + 1) u ms (by simpa using a) (by simpa using b)⟩)
theorem TT.dp {K : PySem.W.Frag} {H : Hp} {v : V} {t : List (List Int)} (h : TT K H v t) : Dp K H v (tabD t) := by
  obtain ⟨p, vs, rfl, hs, hR⟩ := h
  exact .tup hs (rows_dp hR)
theorem shown_int14 {i : Int} (h : i.natAbs < 10 ^ 13) : (PyData.shown (.int i)).length ≤ 14 := by
  have e := int_text_length_le10 (k := 13) (by decide) h
  show (Str.ofString (toString i)).length ≤ 14
  rw [PySem.ofString_length]
  exact e
theorem WT.mem {t : List (List Int)} (h : WT t) : ∀ ns ∈ t, ∀ x ∈ ns, LvOk x := fun ns hns => by
  obtain ⟨i, hi, ei⟩ := List.getElem_of_mem hns
  exact (h i ns (by rw [List.getElem?_eq_getElem hi, ei])).2
/-! ### a def that is called where nothing is being shown -/
structure GOk (P : Program) (w : World) (K : PySem.W.Frag) (mg : Str → Option Value) (base : Heap) (k : Nat) (f : Addr) (fd : FuncData) (ps : List Str) (sp : Sp) : Prop where
  len : ∀ vs H Q E, sp vs H Q E → vs.length = ps.length
  go : ∀ (A : Around) (outer : List Env) (s : Shared) (H : Hp) (args : Args) (us : List Value) (vs : List V) (Q : VK) (E : XK), A.guards = some [] → Room k A → Env0 P w K mg base A outer s H → BindsTo s fd args (ps.zip us) → Vals vs us → sp vs H Q E →
    codeAny (model P w) A (.call (.ref f) args) (CR CX0 outer P w H s Q E) s
theorem fun_G {P : Program} {w : World} {K : PySem.W.Frag} {mg : Str → Option Value} {base : Heap} {x qual : Str} {st : Stmt} {f : Addr} {fd : FuncData} {N ps : List Str} {k : Nat} {sp : Sp} (F : Fun K x qual st f fd) (S : FnScope N ps (defScope st))
    (len : ∀ vs H Q E, sp vs H Q E → vs.length = ps.length)
    (walk : ∀ (cdv : Value) (A : Around) (outer : List Env) (s : Shared) (H : Hp) (vs : List V) (Q : VK) (E : XK), (A.deeper (envOfC qual (defScope st) s.heap.objs.size f cdv)).guards = some [] → Room k (A.deeper (envOfC qual (defScope st) s.heap.objs.size f cdv)) → sp vs H Q E →
      ∃ t, PSs (cxOf CX0 P w K mg base N qual (defScope st) f cdv A outer s H E).nox (defBody st) t ∧ t { nx := fun _ H' => Q .non H', rt := Q } (start N vs) H) : GOk P w K mg base (k + 1) f fd ps sp := by
  obtain ⟨oc, od, kV, doc, pm, an, cdv, ct, osl, rfl, lk, code⟩ := F.ex
  refine ⟨len, fun A outer s H args us vs Q E guards room e0 binds vals hsp => ?_⟩
  have keep : ∀ b o, base.get? b = some o → s.heap.get? b = some o := fun b o e => (e0.bs b o e).1
  have inK : K.In s.heap := e0.mod.kin.keeps keep
  have nolim : s.heap.NoLimit := e0.mod.nolimit.keeps keep
  refine codeAny_call_function room.depth (inK _ _ lk) rfl S.co S.gen rfl (PySem.W.codeRec_of inK code) (binds _ _ _ _ ?_)
  refine wpAny_newFunctionEnv_cells S.kind (fun y hy => ?_) fun env henv s1 inc => ?_
  · rcases S.par y.1 (List.of_mem_zip (a := y.1) (b := y.2) hy).1 with z | z
    · exact .inl z
    · exact .inr ⟨z, PySem.W.cellsFrom_some _ _ _ (.inl z)⟩
  subst henv
  refine ⟨nolim.keeps inc.toInCall.keep, codeAny_func ?_⟩
  obtain ⟨t, ht, hq⟩ := walk cdv A outer s H vs Q E guards (room.deeper _) hsp
  have I := inv_start (CX := CX0) (E := E) S room.hd e0 (len _ _ _ _ hsp) vals inc
  refine wpAny_mono (ht.nox.run [] s1 (start N vs) H _ I hq) (fun fl z hz => ?_) fun _ _ hz => hz
  cases fl with
  | ret u =>
    obtain ⟨v, σ', H', J, rv, qv⟩ := hz
    exact ⟨v, H', J.os, J.bare, J.base, J.hok, rv, qv⟩
  | next =>
    obtain ⟨σ', H', J, qv⟩ := hz
    exact ⟨.non, H', J.os, J.bare, J.base, J.hok, (show RelV V.non Value.none from rfl), qv⟩
  | brk =>
    obtain ⟨_, _, _, qv⟩ := hz
    exact qv.elim
  | cont =>
    obtain ⟨_, _, _, qv⟩ := hz
    exact qv.elim
/-! ### the law's own call -/
theorem law_G {P : Program} {w : World} {K : PySem.W.Frag} {mg mb : Str → Option Value} {k : Nat} {fa a : Addr} {fd : FuncData} {x : Str} {sp : Sp} {z : Shared} {vs : List Value} {ns : List Int}
    (inK : K.In z.heap) (names : z.heap.Ns mainGlobals mg) (bltn : z.heap.Ns builtinsNs mb) (boot : ∀ y : Str, y ≠ "__name__" → mb y = bootBuiltins y) (nolim : z.heap.NoLimit) (gens : z.gens = #[])
    (at_a : z.heap.get? a = some { cls := .type "list", data := .seq vs.toArray }) (itsI : IntsAre vs ns) (few : ns.length ≤ sizeLine) (room : Room k callerA)
    (F : ∀ base : Heap, K.In base → base.Ns mainGlobals mg → GOk P w K mg base k fa fd [x] sp) (binds : ∀ (s : Shared) (u : Value), BindsTo s fd ⟨[u], []⟩ [(x, u)])
    (say : ∀ H : Hp, SqL K H a (ns.map V.int) → sp [.ref a] H (fun v _ => v = .bl true) fun _ _ _ => False) :
    codeAny (model P w) callerA (.call (.ref fa) ⟨[.ref a], []⟩) (fun r s' => r = .ok (.ret (.bool true)) ∧ OldK z.heap s'.heap ∧ s'.os = z.os ∧ AllBare s'.gens) z := by
  have vals := vals_ints itsI
  have lens := itsI.length
  -- a start from any abstract heap that tracks the script at most
  have start : ∀ H : Hp, Only H → SqL K H a (ns.map V.int) → HOk P w H z.heap → (∀ b, H b ≠ none → b = a ∧ K.lookup b = none) →
      codeAny (model P w) callerA (.call (.ref fa) ⟨[.ref a], []⟩) (fun r s' => r = .ok (.ret (.bool true)) ∧ OldK z.heap s'.heap ∧ s'.os = z.os ∧ AllBare s'.gens) z := by
    intro H only sq hok alone
    have hid : ∀ {b : Addr} {o : Obj}, z.heap.get? b = some o → H b = none → (hidT z.heap H).get? b = some o := fun e n => hidT_get e n
    have nsHid : ∀ {b : Addr} {m : Str → Option Value}, z.heap.Ns b m → (hidT z.heap H).Ns b m := by
      rintro b m ⟨o, es, ep, e, d, rest⟩
      refine ⟨o, es, ep, hid e ?_, d, rest⟩
      refine Classical.byContradiction fun n => ?_
      obtain ⟨rfl, _⟩ := alone b n
      rw [at_a] at e
      cases e
      cases d
    have kHid : K.In (hidT z.heap H) := fun b o e => hid (inK b o e) (Classical.byContradiction fun n => by
      have := (alone b n).2
      rw [this] at e
      cases e)
    have md : Mod K mg (hidT z.heap H) := ⟨kHid, nsHid names, ⟨mb, nsHid bltn, boot⟩, by obtain ⟨mc, h1, h2⟩ := nolim; exact ⟨mc, nsHid h1, h2⟩⟩
    have env : Env0 P w K mg (hidT z.heap H) callerA [] z H := ⟨rfl, md, fun b o e => of_hidT e, Nat.le_of_eq (hidT_size _ _), trivial, fun b hb => absurd (show b ∈ ([] : List Addr) from hb) List.not_mem_nil, hok, .of_eq gens⟩
    refine codeAny_mono ((F _ kHid (nsHid names)).go callerA [] z H ⟨[.ref a], []⟩ [.ref a] [.ref a] _ _ rfl room env (binds z (.ref a)) (.cons rfl .nil) (say H sq)) fun r s' hr => ?_
    match r, hr with
    | .ok (.ret u), hr =>
      obtain ⟨v, H', os, bare, un, hok', rel, rfl⟩ := hr
      obtain rfl : u = Value.bool true := rel
      refine ⟨rfl, OldK.of_keep fun b o e => ?_, os, bare⟩
      cases hb : H b with
      | none => exact un.keep b o e hb (fun m => absurd (show b ∈ ([] : List Addr) from m) List.not_mem_nil) (by simp)
      | some ho =>
        rcases only b with n | ⟨ob, xs, n⟩
        · rw [hb] at n
          cases n
        · have l1 := (hok b _ n).1
          have l2 := (hok' b _ (un.frzs b ob _ n)).1
          rw [e] at l1
          cases l1
          exact l2
    | .ok .next, hr => exact False.elim hr
    | .ok .brk, hr => exact False.elim hr
    | .ok .cont, hr => exact False.elim hr
    | .error e, hr => exact False.elim hr
  cases look : K.lookup a with
  | some o =>
    have e := inK a o look
    rw [at_a] at e
    cases e
    refine start (fun _ => none) (fun _ => .inl rfl) (.inr ⟨_, vs.toArray, _, look, rfl, rfl, rfl, ?_, by simpa using vals⟩) (fun b u q => by cases q) fun b q => absurd rfl q
    rw [List.size_toArray, lens]
    exact few
  | none =>
    refine start (fun b => if b = a then some (.frz { cls := .type "list", data := .seq vs.toArray } (.lst (ns.map V.int))) else none) (fun b => ?_) (.inl (.inr ⟨_, if_pos rfl⟩)) (fun b u q => ?_) fun b q => ?_
    · by_cases e : b = a
      · exact .inr ⟨_, _, if_pos e⟩
      · exact .inl (if_neg e)
    · by_cases e : b = a
      · subst e
        have q' := (if_pos rfl).symm.trans q
        cases q'
        exact ⟨at_a, by rw [List.length_map]; exact few, vs, _, vals, at_a⟩
      · have q' := (if_neg e).symm.trans q
        cases q'
    · by_cases e : b = a
      · exact ⟨e, by rw [e]; exact look⟩
      · exact absurd (if_neg e) q
end Ml
namespace Ml
open PySem PySem.Spec PyProof.Rows L2
/-! ### all paths -/
theorem nodup_len : ∀ (n : Nat) (s : List Nat), s.Nodup → (∀ x ∈ s, x < n) → s.length ≤ n
  | 0, s, _, h => by
    cases s with
    | nil => exact Nat.le_refl _
    | cons a b => exact absurd (h a List.mem_cons_self) (Nat.not_lt_zero _)
  | n + 1, s, nd, h => by
    by_cases hm : n ∈ s
    · have ih := nodup_len n (s.erase n) (nd.erase n) fun x hx => by
        have h1 := nd.mem_erase_iff.mp hx
        have := h x h1.2
        have := h1.1
        omega
      have := List.length_erase_of_mem hm
      omega
    · have ih := nodup_len n s nd fun x hx => by
        have := h x hx
        have : x ≠ n := fun e => hm (e ▸ hx)
        omega
      omega
structure Stub (n i : Nat) (s : List Nat) : Prop where
  hd : s.head? = some i
  nod : s.Nodup
  lt : ∀ x ∈ s, x < n
structure DInv (n i j : Nat) (S F : List (List Nat)) : Prop where
  st : ∀ s ∈ S, Stub n i s
  fo : ∀ p ∈ F, Simple n p i j
  all : ∀ p, Simple n p i j → p ∈ F ∨ ∃ s ∈ S, s <+: p
theorem DInv.start {n i j : Nat} (hi : i < n) : DInv n i j [[i]] [] := by
  refine ⟨fun s hs => ?_, fun p hp => by simp at hp, fun p hp => .inr ⟨[i], by simp, ?_⟩⟩
  · rw [List.mem_singleton.mp hs]
    exact ⟨rfl, by simp, fun x hx => by rw [List.mem_singleton.mp hx]; exact hi⟩
  · have := hp.hd
    cases p with
    | nil => cases this
    | cons a b =>
      cases Option.some.inj this
      exact ⟨b, rfl⟩
/-! ### heights -/
/-! ### rows put together -/
theorem Rows.append {K : PySem.W.Frag} {H : Hp} {vs us : List V} {t t' : List (List Int)} (h : Rows K H vs t) (h' : Rows K H us t') : Rows K H (vs ++ us) (t ++ t') := by
  refine ⟨by rw [List.length_append, List.length_append, h.1, h'.1], fun i u ms a b => ?_⟩
  by_cases hi : i < vs.length
  · rw [List.getElem?_append_left hi] at a
    rw [List.getElem?_append_left (by rw [← h.1]; exact hi)] at b
    exact h.2 i u ms a b
  · rw [List.getElem?_append_right (by omega)] at a
    rw [List.getElem?_append_right (by rw [← h.1]; omega), ← h.1] at b
    exact h'.2 _ u ms a b
theorem Rows.mem {K : PySem.W.Frag} {H : Hp} {vs : List V} {t : List (List Int)} (h : Rows K H vs t) {i : Nat} {v : V} (e : vs[i]? = some v) : ∃ ns, t[i]? = some ns ∧ IT K H v ns := by
  have h1 := (List.getElem?_eq_some_iff.mp e).1
  have h2 : i < t.length := by rw [← h.1]; exact h1
  exact ⟨t[i], List.getElem?_eq_getElem h2, h.2 i v _ e (List.getElem?_eq_getElem h2)⟩
/-- paths as rows -/
abbrev iL (p : List Nat) : List Int := p.map fun i : Nat => (i : Int)
theorem split_last {α : Type} (l : List α) (h : l ≠ []) : ∃ r x, l = r ++ [x] := ⟨l.dropLast, l.getLast h, (List.dropLast_concat_getLast h).symm⟩
end Ml
namespace Ml
open PySem PySem.Spec PyProof.Rows L2
/-! ### enumerate in a comprehension -/
/-! ### ascending lists -/
/-! ### divisions -/
/-- a search by lower steps -/
structure Srch (t : List (List Int)) (i : Nat) (h : Int) (L : List Nat) (m : Nat) : Prop where
  nod : L.Nodup
  ini : i ∈ L
  ok : ∀ x ∈ L, x < t.length ∧ Wk (lev t) t.length (h - 1) i x
  cl : ∀ (q x : Nat), q < m → L[q]? = some x → ∀ k, k < t.length → lev t x k < h → k ∈ L
theorem Srch.start {t : List (List Int)} {i : Nat} {h : Int} (hi : i < t.length) : Srch t i h [i] 0 :=
  ⟨by simp, by simp, fun x hx => by rw [List.mem_singleton.mp hx]; exact ⟨hi, .refl⟩, fun q x hq => absurd hq (Nat.not_lt_zero _)⟩
def nearL2 (t : List (List Int)) (x : Nat) (h : Int) : List Nat := (List.range t.length).filter fun k => decide (lev t x k < h)
def fresh (t : List (List Int)) (x : Nat) (h : Int) (L : List Nat) : List Nat := (nearL2 t x h).filter fun k => decide (k ∉ L)
theorem mem_fresh {t : List (List Int)} {x : Nat} {h : Int} {L : List Nat} {k : Nat} : k ∈ fresh t x h L ↔ k < t.length ∧ lev t x k < h ∧ k ∉ L := by
  unfold fresh nearL2
  rw [List.mem_filter, List.mem_filter, List.mem_range, decide_eq_true_iff, decide_eq_true_iff]
  constructor
  · rintro ⟨⟨a, b⟩, c⟩; exact ⟨a, b, c⟩
  · rintro ⟨a, b, c⟩; exact ⟨⟨a, b⟩, c⟩
theorem Srch.step {t : List (List Int)} {i : Nat} {h : Int} {L : List Nat} {m x : Nat} (S : Srch t i h L m) (hx : L[m]? = some x) : Srch t i h (L ++ fresh t x h L) (m + 1) := by
  have hm := (List.getElem?_eq_some_iff.mp hx).1
  have hxo := S.ok x (List.mem_of_getElem? hx)
  refine ⟨?_, List.mem_append_left _ S.ini, fun y hy => ?_, fun q y hq hy k hk hl => ?_⟩
  · rw [List.nodup_append]
    refine ⟨S.nod, (List.nodup_range.filter _).filter _, fun a ha b hb e => ?_⟩
    subst e
    exact (mem_fresh.mp hb).2.2 ha
  · rcases List.mem_append.mp hy with hy | hy
    · exact S.ok y hy
    · obtain ⟨a, b, c⟩ := mem_fresh.mp hy
      exact ⟨a, hxo.2.step hxo.1 a (by omega)⟩
  · by_cases hkL : k ∈ L
    · exact List.mem_append_left _ hkL
    · by_cases e : q = m
      · subst e
        rw [List.getElem?_append_left hm, hx] at hy
        cases Option.some.inj hy
        exact List.mem_append_right _ (mem_fresh.mpr ⟨hk, hl, hkL⟩)
      · rw [List.getElem?_append_left (by omega)] at hy
        exact absurd (S.cl q y (by omega) hy k hk hl) hkL
theorem Srch.len {t : List (List Int)} {i : Nat} {h : Int} {L : List Nat} {m : Nat} (S : Srch t i h L m) : L.length ≤ t.length := nodup_len _ L S.nod fun x hx => (S.ok x hx).1
/-! ### widths -/
theorem cross {f : Nat → Nat → Int} {n : Nat} {h : Int} {i j : Nat} {S : Nat → Prop} (w : Wk f n h i j) (hi : S i) (hj : ¬ S j) : ∃ a b, a < n ∧ b < n ∧ S a ∧ ¬ S b ∧ f a b ≤ h := by
  induction w with
  | refl => exact absurd hi hj
  | @step j k _ a b c ih =>
    by_cases e : S j
    · exact ⟨j, k, a, b, e, hj, c⟩
    · exact ih e
end Ml
namespace Ml
open PySem PySem.Spec PyProof.Rows L2
section
variable {X : Cx}
/-- t + u: some tuple of both -/
def rCatW (K : PySem.W.Frag) : R2 := fun x y H Q => ∃ a b xs ys, x = .ref a ∧ y = .ref b ∧ SqT K H a xs ∧ SqT K H b ys ∧ xs.length + ys.length ≤ sizeLine ∧ ∀ p H', Sm H H' → SqT K H' p (xs ++ ys) → Q (.ref p) H'
theorem op_catW : OpR X (binaryOp .Add) (rCatW X.K) := by
  intro pins s σ H x y v u Q I rx ry h
  obtain ⟨a, b, xs, ys, e1, e2, ha, hb, hz, q⟩ := h
  refine op_catA pins s σ H x y v u Q I rx ry ⟨a, b, xs, ys, e1, e2, ha, hb, hz, fun e => ?_, fun _ e => ?_, fun _ _ p hp => ?_⟩
  · rw [e, List.nil_append] at q
    exact q b H (Sm.refl H) hb
  · rw [e, List.append_nil] at q
    exact q a H (Sm.refl H) ha
  · exact q p _ (Sm.new hp) (SqT.of upd_same)
/-- t[lo:hi]: some tuple of these -/
def rSlW (K : PySem.W.Frag) : V → Option Int → Option Int → Hp → VK → Prop := fun x lo hi H Q => ∃ a xs, x = .ref a ∧ SqT K H a xs ∧ ∀ p H', Sm H H' → SqT K H' p (cutV xs lo hi) → Q (.ref p) H'
theorem sl_tupW : SlR X (rSlW X.K) := by
  intro pins s σ H x v vl vu lo hi sl Q I rx hs pl pu h
  obtain ⟨a, xs, e1, ha, q⟩ := h
  refine sl_tupA pins s σ H x v vl vu lo hi sl Q I rx hs pl pu ⟨a, xs, e1, ha, fun e => ?_, fun _ p hp => ?_⟩
  · refine q a H (Sm.refl H) ?_
    have e3 : cutV xs lo hi = xs := by
      unfold cutV
      rw [e.1, e.2, List.drop_zero, Nat.sub_zero, List.take_length]
    rw [e3]
    exact ha
  · exact q p _ (Sm.new hp) (SqT.of upd_same)
end
theorem cut_to (xs : List V) (k : Nat) : cutV xs none (some (k : Int)) = xs.take k := by
  unfold cutV
  rw [HT.sIx_none, HT.sIx_nat, List.drop_zero, Nat.sub_zero]
  by_cases h : k ≤ xs.length
  · rw [Nat.min_eq_left h]
  · rw [Nat.min_eq_right (by omega), List.take_length, List.take_of_length_le (by omega)]
theorem cut_from (xs : List V) (k : Nat) : cutV xs (some (k : Int)) none = xs.drop k := by
  unfold cutV
  rw [HT.sIx_none, HT.sIx_nat]
  by_cases h : k ≤ xs.length
  · rw [Nat.min_eq_left h]
    exact List.take_of_length_le (by rw [List.length_drop]; omega)
  · rw [Nat.min_eq_right (by omega), List.drop_length, List.drop_of_length_le (by omega), List.take_nil]
theorem set_parts {α : Type} (xs : List α) (i : Nat) (v : α) (h : i < xs.length) : xs.take i ++ [v] ++ xs.drop (i + 1) = xs.set i v := by
  rw [List.set_eq_take_append_cons_drop, if_pos h, List.append_assoc]
  rfl
theorem Rows.set {K : PySem.W.Frag} {H : Hp} {vs : List V} {t : List (List Int)} {i : Nat} {v : V} {ns : List Int} (h : Rows K H vs t) (q : IT K H v ns) : Rows K H (vs.set i v) (t.set i ns) := by
  refine ⟨by rw [List.length_set, List.length_set]; exact h.1, fun j u ms a b => ?_⟩
  by_cases e : i = j
  · subst e
    rw [List.getElem?_set_self'] at a b
    cases e1 : vs[i]? with
    | none => rw [e1] at a; cases a
    | some z =>
      cases e2 : t[i]? with
      | none => rw [e2] at b; cases b
      | some y =>
        rw [e1] at a
        rw [e2] at b
        cases Option.some.inj a
        cases Option.some.inj b
        exact q
  · rw [List.getElem?_set_ne e] at a b
    exact h.2 j u ms a b
theorem WT.set {t : List (List Int)} {i : Nat} {ns : List Int} (h : WT t) (h1 : ns.length = i) (h2 : ∀ x ∈ ns, LvOk x) : WT (t.set i ns) := by
  intro j ms q
  by_cases e : i = j
  · subst e
    rw [List.getElem?_set_self'] at q
    cases e1 : t[i]? with
    | none => rw [e1] at q; cases q
    | some z =>
      rw [e1] at q
      cases Option.some.inj q
      exact ⟨h1, h2⟩
  · rw [List.getElem?_set_ne e] at q
    exact h j ms q
end Ml
namespace Ml
open PySem PySem.Spec PyProof.Rows L2
/-! ### one level replaced -/
def wL (t : List (List Int)) (a b : Nat) (x : Int) : List (List Int) := t.set (max a b) ((t.getD (max a b) []).set (min a b) x)
/-- the detour -/
def dt (t : List (List Int)) (a b : Nat) : Int := jn (wL t a b 1000000000000) a b
end Ml
namespace Ml
open PySem PySem.Spec PyProof.Rows L2
/-! ### the nested table below a table -/
/-! ### tables made place by place -/
/-! ### other names -/
abbrev oA (os : List Nat) (i : Nat) : Nat := os.getD i 0
structure Orr (os : List Nat) (n : Nat) : Prop where
  len : os.length = n
  lt : ∀ i, i < n → oA os i < n
  inj : ∀ i j, i < n → j < n → oA os i = oA os j → i = j
  sur : ∀ x, x < n → ∃ i, i < n ∧ oA os i = x
theorem Orr.of {os : List Nat} {n : Nat} (h : os.Perm (List.range n)) : Orr os n := by
  have hl := h.length_eq
  rw [List.length_range] at hl
  have nd : os.Nodup := h.nodup_iff.mpr List.nodup_range
  have at_ : ∀ i, (hi : i < n) → oA os i = os[i]'(by omega) := fun i hi => by
    unfold oA
    rw [List.getD_eq_getElem?_getD, List.getElem?_eq_getElem (by omega)]
    rfl
  refine ⟨hl, fun i hi => ?_, fun i j hi hj e => ?_, fun x hx => ?_⟩
  · rw [at_ i hi]
    exact List.mem_range.mp (h.mem_iff.mp (List.getElem_mem _))
  · rw [at_ i hi, at_ j hj] at e
    have pw := List.pairwise_iff_getElem.mp nd
    rcases Nat.lt_trichotomy i j with z | z | z
    · exact absurd e (pw i j (by omega) (by omega) z)
    · exact z
    · exact absurd e.symm (pw j i (by omega) (by omega) z)
  · obtain ⟨i, hi, e⟩ := List.getElem_of_mem (h.mem_iff.mpr (List.mem_range.mpr hx))
    exact ⟨i, by omega, by rw [at_ i (by omega), e]⟩
/-! ### other levels in the same order -/
/-! ### planted tables -/
inductive EW (E : List (Nat × Nat)) (f : Nat → Nat → Int) (h : Int) (i : Nat) : Nat → Prop
  | refl : EW E f h i i
  | step {j k : Nat} : EW E f h i j → ((j, k) ∈ E ∨ (k, j) ∈ E) → f j k ≤ h → EW E f h i k
theorem EW.mono {E E' : List (Nat × Nat)} {f f' : Nat → Nat → Int} {h h' : Int} {i j : Nat} (w : EW E f h i j) (hE : ∀ e ∈ E, e ∈ E') (hf : ∀ a b, (a, b) ∈ E ∨ (b, a) ∈ E → f' a b = f a b) (hh : h ≤ h') : EW E' f' h' i j := by
  induction w with
  | refl => exact .refl
  | @step a b _ e hs ih =>
    refine ih.step (e.elim (fun z => .inl (hE _ z)) (fun z => .inr (hE _ z))) ?_
    rw [hf a b e]
    omega
structure Plant (t : List (List Int)) (E : List (Nat × Nat)) : Prop where
  wt : WT t
  ult : Ultra t
  ed : ∀ a b, (a, b) ∈ E → a < b ∧ b < t.length
  wk : ∀ i j, i < t.length → j < t.length → EW E (lev t) (lev t i j) i j
theorem Plant.one : Plant [[]] [] := by
  refine ⟨WT.nil.snoc rfl (fun x hx => by simp at hx), fun i j k hi hj hk => ?_, fun a b h => by simp at h, fun i j hi hj => ?_⟩
  · have h1 : i = 0 := by simp at hi; exact hi
    have h2 : j = 0 := by simp at hj; exact hj
    have h3 : k = 0 := by simp at hk; exact hk
    subst h1 h2 h3
    rw [lev_self]
    omega
  · have h1 : i = 0 := by simp at hi; exact hi
    have h2 : j = 0 := by simp at hj; exact hj
    subst h1 h2
    exact .refl
end Ml
/-! enumerate(tuple) -/
namespace PySem
namespace Err_ParseError
open PySem.W PySem.Calls PyProof.Rows PySem.HandSPX Builtin Builtin.ObjectAttr
/-! ### ParseError: an own error over ValueError with the field place -/
abbrev tail : List Value := [.type "ValueError", .type "Exception", .type "BaseException", .type "object"]
def iA (p1 p2 : Pos) : Arguments := { posonlyargs := [], args := [{ arg := "self", annotation := none, pos := p1 }, { arg := "place", annotation := none, pos := p2 }], vararg := none, kwonlyargs := [], kw_defaults := [], kwarg := none, defaults := [] }
def iB (q1 q2 q3 q4 : Pos) : List Stmt := [.Assign [.Attribute (.Name "self" q1) "place" q2] (.Name "place" q3) q4]
def iS : Scope := { kind := .function, names := [(PySem.Str.ofString "self", .local), (PySem.Str.ofString "place", .local)], isGenerator := false, isCoroutine := false, more := [] }
/-- what the written part says of the class, at C, and of its __init__, at fI -/
structure Txt (K : Frag) (mg : Str → Option Value) (C fI : Addr) : Prop where
  gC : mg "ParseError" = some (.ref C)
  cls : ∃ nm q N bs bm sn sub ab col dd k0 k1 k2 k3 k5, K.lookup C = some (excClassObj nm q C N bs bm true sn sub ab col dd k0 k1 k2 k3 k5 "ValueError.__new__") ∧ excTail tail bm = true
  sa : findIn K (.ref C) "__setattr__" = some (some (.builtin "object.__setattr__"))
  ga : findIn K (.ref C) "__getattribute__" = some (some (.builtin "BaseException.__getattribute__"))
  gg : findIn K (.ref C) "__getattr__" = some none
  noN : findIn K (.ref C) "place" = some none
  iC : findIn K (.ref C) "__init__" = some (some (.ref fI))
  tC : typeIn K (.ref fI) = some (.type "function")
  kC : keepIn K (.ref C) = true
  exC : subIn K (.ref C) (.type "BaseException") = some true
  tyC : typeIn K (.ref C) = some (.type "type")
  hdC : hasDictIn K C = true
  te : exmOne K (.ref C) (.ref C) = some true
  fn : ∃ (oc : Value) (od : Option Addr) (doc pm : Value) (an : Option Addr) (cdv ct : Value) (osl : Array (Option Value)) (p1 p2 q1 q2 q3 q4 : Pos),
    K.lookup fI = some ⟨oc, od, .func (fnOf "__init__" "ParseError.__init__" (iA p1 p2) (iB q1 q2 q3 q4) iS .none .none doc pm an cdv ct), osl⟩ ∧ codeIn K cdv "ParseError.__init__" = true
theorem one_size (v : Value) : [v].length ≤ sizeLine := by
  rw [sizeLine_eq]
  exact (by decide : 1 ≤ 16777216)
theorem ldC {M : Model} {s : Shared} {name : Str} {scope : Scope} {L a : Addr} {cd : Value} {m : Str → Option Value} {x : Str} {pos : Pos} {v : Value} {Q : Value → Shared → Prop} {A : Around} {E : Value → Shared → Prop} (hn : s.heap.Ns L m) (hv : m x = some v) (h : Q v s)
    (hk : scope.kind = .function := by rfl) (hl : (envOfC name scope L a cd).kindOf x = some .local := by rfl) (hd : (x == ("__debug__" : Str)) = false := by decide) :
    wpAny M A (eval (.Name x pos) (envOfC name scope L a cd)) Q E s := wpAny_Name (wpAny_loadName_local hk hl hn hv h) hd
/-- what __init__ leaves of a fresh error at x -/
structure InitEnd (h h' : Heap) (x C dx t1 : Addr) (v : Value) : Prop where
  keep : ∀ b o, b ≠ x → h.get? b = some o → h'.get? b = some o
  obj : h'.get? x = some { cls := .ref C, dict := some dx, data := .fields #[.ref t1, .none, .none, .none, .bool false, .none] }
  dbig : h.objs.size ≤ dx
  dne : dx ≠ x
  ns : h'.Ns1 dx (fun y => if y = "place" then some v else none)
/-- a made one -/
structure OwnMade (h h' : Heap) (e C d : Addr) (v : Value) : Prop where
  keep : ∀ b o, h.get? b = some o → h'.get? b = some o
  new : h.objs.size ≤ e
  obj : ∃ oe vs, h'.get? e = some oe ∧ oe.cls = .ref C ∧ oe.dict = some d ∧ oe.data = .fields vs ∧ vs[1]? = some .none ∧ vs[2]? = some .none ∧ 4 < vs.size
  dbig : h.objs.size ≤ d
  dne : d ≠ e
  ns : h'.Ns1 d (fun y => if y = "place" then some v else none)
section
variable {prog : Program} {w : World} {A : Around} {E : Value → Shared → Prop} {R : Result → Shared → Prop} {s : Shared} {K : Frag} {mg : Str → Option Value} {C fI : Addr}
/-- the first store into an error of such a class -/
theorem osa {hp : Heap} {g : Array GenState} {d : Drawn} {t : Nat} {os : OsState} {tk : Tok} {v : Value} {x : Addr} {fv : Array Value} (T : Txt K mg C fI)
    (X : K.In hp) (hx : hp.get? x = some { cls := .ref C, data := .fields fv })
    (hq : ∀ h' tk' dx, (∀ b o, b ≠ x → hp.get? b = some o → h'.get? b = some o) → hp.objs.size ≤ dx → dx ≠ x → h'.get? x = some { cls := .ref C, dict := some dx, data := .fields fv } →
      h'.Ns1 dx (fun y => if y = "place" then some v else none) → R (.ok (.ret .none)) ⟨h', g, d, tk', os⟩) :
    codeAny (model prog w) A (.call (.builtin "object.__setattr__") ⟨[.ref x, .str "place" tk, v], []⟩) R ⟨hp, g, d, t, os⟩ := by
  obtain ⟨nm, q, N, bs, bm, sn, sub, ab, col, dd, k0, k1, k2, k3, k5, hC, hbm⟩ := T.cls
  have hcl : clsIn K C = some { name := nm, bases := bs, mro := .ref C :: bm, ns := N, qualname := q, hasDict := true, slotNames := sn, subclasses := sub, abstract := ab, collection := col, hasDel := false } := by unfold clsIn; rw [hC] <;> rfl
  have I : W.InstAt hp x { cls := .ref C, data := .fields fv } C none := ⟨hx, rfl, rfl, trivial⟩
  have hov : excOver K C tail = true := by
    unfold excOver
    rw [hcl]
    simp [hbm]
  have htk : takerIn K C "place" = some none := by
    unfold takerIn
    rw [T.noN]
    rfl
  have hxs : x ≠ hp.objs.size := Nat.ne_of_lt (Heap.lt_size hx)
  have hcls : W.Looks (model prog w) hp (classData C) _ := W.looks_clsIn X hcl
  refine osa_openX (r := none) F.store_ValueError X I hov htk (fun b => ?_)
  show wpAny _ _ (storeInOwnDict (.ref x) (.ref C) (.str "place" tk) "place" v b) _ _ _
  unfold storeInOwnDict ownDictForStores
  repeat (first | with_reducible refine store_in_new ?_ ?_ | with_reducible refine wpAny_loadPart_at hx ?_ | with_reducible refine hcls.at ?_ | wp_step)
  · exact ⟨_, #[], _, (Heap.get?_update_ne _ _ _ _ hxs.symm).trans (Heap.get?_push_at rfl rfl), rfl, fun e he => absurd he (by simp), fun _ => rfl⟩
  · intro h' tk' hn' hs
    have hx₁ : (hp.push { cls := .type "dict", data := .dict #[] }).get? x = some { cls := .ref C, data := .fields fv } := Heap.get?_push_of_some _ hx
    refine hq h' tk' hp.objs.size (fun b o hb ho => ?_) (Nat.le_refl _) hxs.symm ?_ hn'
    · exact (hs.2 b (Nat.ne_of_lt (Heap.lt_size ho))).trans ((Heap.get?_update_ne _ _ _ _ hb).trans (Heap.get?_push_of_some _ ho))
    · exact (hs.2 x hxs).trans (Heap.get?_update_self _ hx₁ rfl)
theorem init (T : Txt K mg C fI) {x t0 : Addr} {v : Value} (X : K.In s.heap) (hlim : s.heap.NoLimit) (hx : s.heap.get? x = some (excO C t0)) (hnx : K.lookup x = none) (hroom : A.depth < recursionLimit)
    (hq : ∀ h' tk dx, InitEnd s.heap h' x C dx t0 v → R (.ok (.ret .none)) { s with heap := h', toks := tk }) :
    codeAny (model prog w) A (.call (.ref fI) ⟨[.ref x, v], []⟩) R s := by
  obtain ⟨oc, od, doc, pm, an, cdv, ct, osl, p1, p2, q1, q2, q3, q4, ho, hcd⟩ := T.fn
  refine Att.call_fn (binds := [("self", .ref x), ("place", v)]) X hlim ho hcd hroom (BindsTo.of_eq (by first | rfl | with_unfolding_all rfl)) (by first | rfl | decide | with_unfolding_all rfl) (fun s₁ IC => ?_) rfl rfl rfl
  obtain ⟨h₁, tk₁, rfl⟩ := IC.toInCall.same
  have k : ∀ b o, s.heap.get? b = some o → h₁.get? b = some o := IC.toInCall.keep
  have hn := IC.toInCall.ns
  have X₁ : K.In h₁ := X.keeps k
  have hx₁ := k _ _ hx
  show wpAny _ _ (execs _ _) _ _ _
  refine wpAny_execs_cons (plainObj_wpAny_Assign_Attribute ?_)
  refine ldC (v := v) hn (by first | rfl | with_unfolding_all rfl | kernel_rfl) (ldC (v := .ref x) hn (by first | rfl | with_unfolding_all rfl | kernel_rfl) ?_)
  refine set_plain X₁ (ox := excO C t0) (od := none) ⟨hx₁, rfl, rfl, trivial⟩ T.sa ?_
  refine osa T X₁ hx₁ (fun h₃ tk₃ dx k₃ dn dne hx₃ hn₃ => ?_)
  show wpAny _ _ (execs _ _) _ _ _
  have z : s.heap.objs.size < h₁.objs.size := hn.lt
  exact wpAny_execs_nil (hq h₃ tk₃ dx ⟨fun b o hb e => k₃ b o hb (k b o e), hx₃, Nat.le_of_lt (Nat.lt_of_lt_of_le z dn), dne, hn₃⟩)
theorem made (T : Txt K mg C fI) {v : Value} (X : K.In s.heap) (hlim : s.heap.NoLimit) (hroom : A.depth + 1 < recursionLimit)
    (hq : ∀ h' tk e d, OwnMade s.heap h' e C d v → R (.ok (.ret (.ref e))) { s with heap := h', toks := tk }) :
    codeAny (model prog w) A (.call (.ref C) ⟨[v], []⟩) R s := by
  obtain ⟨nm, q, N, bs, bm, sn, sub, ab, col, dd, k0, k1, k2, k3, k5, hC, hbm⟩ := T.cls
  obtain ⟨hp, g, dr, tk, os⟩ := s
  have k : ∀ b o, hp.get? b = some o → ((hp.push (kdv_tup [v])).push (excO C hp.objs.size)).get? b = some o := fun b o e => Heap.get?_push_of_some _ (Heap.get?_push_of_some _ e)
  have hget : ((hp.push (kdv_tup [v])).push (excO C hp.objs.size)).get? (hp.objs.size + 1) = some (excO C hp.objs.size) := by heap_get
  have hnx : K.lookup (hp.objs.size + 1) = none := by
    cases e : K.lookup (hp.objs.size + 1) with
    | none => rfl
    | some o =>
      have z : hp.get? (hp.objs.size + 1) = some o := X _ _ e
      exact absurd (Nat.lt_of_succ_lt (Heap.lt_size z)) (Nat.lt_irrefl _)
  refine call_own F.excBase_ValueError (fun X => excTail_contains X bm hbm) (X _ _ hC) (looks_findIn X T.iC) (fun self => bind_fn X self T.tC) (one_size v) ?_
  refine init (s := ⟨(hp.push (kdv_tup [v])).push (excO C hp.objs.size), g, dr, tk, os⟩) T (X.keeps k) (hlim.keeps k) hget hnx ?_ fun h' tk' dx ⟨k', hx, dn, dne, hns⟩ => ?_
  · show A.depth + 1 < recursionLimit
    exact hroom
  · have old : ∀ b o, hp.get? b = some o → h'.get? b = some o := fun b o e => k' b o (Nat.ne_of_lt (Nat.lt_succ_of_lt (Heap.lt_size e))) (k b o e)
    have z : hp.objs.size + 1 + 1 ≤ dx := by
      first
        | (simpa only [Heap.size_push] using dn)
        | exact dn
        | (have q := dn; rw [Heap.size_push, Heap.size_push] at q; exact q)
    exact ⟨rfl, hq h' tk' (hp.objs.size + 1) dx ⟨old, Nat.le_succ _, ⟨_, _, hx, rfl, rfl, rfl, rfl, rfl, (by show (4 : Nat) < 6; decide)⟩, Nat.le_trans (Nat.le_trans (Nat.le_succ _) (Nat.le_succ _)) z, dne, hns⟩⟩
end
end Err_ParseError
end PySem
namespace L2
open PySem PySem.Spec PyProof.Rows
theorem relO_ParseError {v : V} {v' : Value} (r : RelV v v') (f : Str) : RelO (List.lookup f [(("place" : Str), v)]) (if f = "place" then some v' else none) := by
  by_cases hw : f = "place"
  · subst hw
    rw [if_pos rfl]
    have q : List.lookup ("place" : Str) [(("place" : Str), v)] = some v := by simp [List.lookup]
    rw [q]
    exact r
  · rw [if_neg hw]
    have qw : (f == ("place" : Str)) = false := by simpa using hw
    have q2 : List.lookup f [(("place" : Str), v)] = none := by simp [List.lookup, qw]
    rw [q2]
    trivial
section
variable {X : Cx} {C fI : Addr}
def tMkParseError (C : Addr) (ta : TA) : St → Hp → XK → Prop := fun σ H Q => ta σ H fun vs H1 => ∃ v, vs = [v] ∧ ∀ d, H1 d = none → Q (.ref C) (some d) (upd H1 d (.xd [(("place" : Str), v)]))
theorem pmk_ParseError {a : Expr} {ta : TA} {p pos : Pos} {k : Nat} (T : PySem.Err_ParseError.Txt X.K X.mg C fI) (hr : Room k X.A) (ha : PA X [a] ta) (hg : Gl X "ParseError" := by rfl)
    (he : starEach (a :: []) X.env = (false, eval a X.env) :: starEach [] X.env := by rfl) (hpl : (backTo pos (starEach [] X.env)).any (·.1) = false := by rfl) :
    PMk X (.Call (.Name "ParseError" p) [a] [] pos) (tMkParseError C ta) := by
  intro pins s σ H Q I h
  refine wpAny_Call_Name_kw (ld_glob I hg T.gC ?_)
  refine PySem.W.callWith_K (h₀ := X.base) I.ok.mod.kin T.kC (thn (ha.run pos pins s σ H _ I h) fun us s1 hh => ?_) he hpl
  obtain ⟨vs, H1, I1, r1, v, ev, q1⟩ := hh
  subst ev
  refine ⟨I1.kIn, ?_⟩
  cases r1 with
  | cons rv rn =>
    rename_i v' us'
    cases rn
    show wpAny _ _ (call (.ref C) [v']) _ _ _
    have hlim := I1.nolimit
    obtain ⟨hp, g, dr, tk, os⟩ := s1
    refine wpAny_call (PySem.Err_ParseError.made T I1.kIn hlim (by have := hr.dp; omega) fun h' tk' e d M => ?_)
    show MkP X pins σ Q (.ref e) ⟨h', g, dr, tk', os⟩
    obtain ⟨oe, fv, hoe, hc, hd, hdat, h1, _, _⟩ := M.obj
    have hns := M.ns
    obtain ⟨G', g1, g2⟩ := restrict h' fun b => decide (b ≠ e)
    have gk : ∀ b, b ≠ e → G'.get? b = h'.get? b := fun b hb => g1 b (decide_eq_true hb)
    have ge : G'.get? e = none := g2 e (by simp)
    have old : ∀ b o, hp.get? b = some o → G'.get? b = some o := fun b o q => (gk b (Nat.ne_of_lt (Nat.lt_of_lt_of_le (Heap.lt_size q) M.new))).trans (M.keep b o q)
    have ob : ObjOk X.prog X.w (upd H1 d (.xd [(("place" : Str), v)])) G' d (.xd [(("place" : Str), v)]) :=
      ⟨_, hns.at (fun o q => (gk d M.dne).trans q), fun f => relO_ParseError rv f⟩
    have J : Inv X pins σ (upd H1 d (.xd [(("place" : Str), v)])) ⟨G', g, dr, tk', os⟩ := I1.laid (t' := tk') old M.dbig ob
    refine ⟨e, oe, fv, ⟨G', g, dr, tk', os⟩, _, .ref C, some d, rfl, J, fun b o q => ?_, ge, hoe, ⟨hc, hd⟩, hdat, h1, ?_, rfl, I1.bare, raises_own T.exC T.tyC, q1 d (I1.hok.fresh M.dbig)⟩
    · by_cases hb : b = e
      · have q' : G'.get? b = some o := q
        rw [hb, ge] at q'; cases q'
      · exact (gk b hb).symm.trans q
    · rw [upd_ne (Ne.symm M.dne)]
      exact I1.hok.fresh M.new
/-- raise ParseError(e) -/
def tRaiseParseError (C : Addr) (W : WX) (ta : TA) : TS := fun _ σ H => tMkParseError C ta σ H fun cls d H' => W cls d σ H'
theorem ps_raiseParseError {a : Expr} {ta : TA} {W : WX} {p pos pos2 : Pos} {k : Nat} (hc : X.calm = true) (T : PySem.Err_ParseError.Txt X.K X.mg C fI) (hr : Room k X.A) (tk : Takes X W) (ha : PA X [a] ta) (hg : Gl X "ParseError" := by rfl)
    (he : starEach (a :: []) X.env = (false, eval a X.env) :: starEach [] X.env := by rfl) (hpl : (backTo pos (starEach [] X.env)).any (·.1) = false := by rfl) :
    PS X (.Raise (some (.Call (.Name "ParseError" p) [a] [] pos)) none pos2) (tRaiseParseError C W ta) := ps_raise hc tk (pmk_ParseError T hr ha hg he hpl)
/-- error.place, the error that the suite holds (at a; its class cls, its dict d) -/
def tGetParseError (C : Addr) (a : Addr) (cls : Value) (d : Option Addr) (te : TE) : TE := fun σ H Q => te σ H fun x H1 => x = .ref a ∧ cls = .ref C ∧ ∃ (dd : Addr) (v : V), d = some dd ∧ H1 dd = some (.xd [(("place" : Str), v)]) ∧ Q v H1
theorem pe_getParseError {a : Addr} {oe : Obj} {cls : Value} {d : Option Addr} {pn : List (Addr × Obj)} {e : Expr} {te : TE} {pos : Pos} (T : PySem.Err_ParseError.Txt X.K X.mg C fI) (hz : Zc cls d oe) (hf : ∃ vs, oe.data = .fields vs) (he : PE (X.suite a ((a, oe) :: pn)) e te)
    (hb : attributeBase e "place" X.env (eval e X.env) = eval e X.env := by rfl) :
    PE (X.suite a ((a, oe) :: pn)) (.Attribute e "place" pos) (tGetParseError C a cls d te) := by
  refine ⟨fun pins s σ H Q I h => ?_⟩
  refine attr_of hb (thn (he.run pins s σ H _ I h) fun u s1 hh => ?_)
  obtain ⟨x, H1, I1, rx, ex, ec, dd, v, ed, ea, q⟩ := hh
  subst ex
  obtain rfl : u = Value.ref a := rx
  subst ec
  subst ed
  obtain ⟨ha, _⟩ := I1.pin (a, oe) (List.mem_append_left _ List.mem_cons_self)
  obtain ⟨vs, hd⟩ := hf
  have hx : ObjOk X.prog X.w H1 s1.heap dd (.xd [(("place" : Str), v)]) := I1.hok dd _ ea
  obtain ⟨mA, hns, hr⟩ := hx
  obtain ⟨od, ho, hl⟩ := lookIn_ns hns
  have l : List.lookup ("place" : Str) [(("place" : Str), v)] = some v := by simp [List.lookup]
  obtain ⟨u, hu, ru⟩ := RelO.some_of (v := v) (o := mA "place") (by rw [← l]; exact hr "place")
  have J : PySem.W.InstAt s1.heap a oe C (some od) := ⟨ha, hz.1, by unfold PySem.W.notCls; rw [hd] <;> rfl, by rw [hz.2]; exact ho⟩
  exact HandSPX.exc_get I1.kIn J T.ga T.gg T.exC (PySem.W.findObj_own T.hdC T.noN rfl (by rw [hl, hu])) (handed_of ru) ⟨v, H1, I1.tok _, ru, q⟩
end
end L2
namespace Ml
open PySem PySem.Spec PyProof.Rows L2
/-! ### shortest paths, layer by layer -/
inductive Lx : List Nat → List Nat → Prop
  | lt {a b : Nat} {p q : List Nat} : a < b → Lx (a :: p) (b :: q)
  | eq {a : Nat} {p q : List Nat} : Lx p q → Lx (a :: p) (a :: q)
theorem Lx.app {p q : List Nat} (h : Lx p q) (r s : List Nat) : Lx (p ++ r) (q ++ s) := by
  induction h with
  | lt h => exact .lt h
  | eq _ ih => exact .eq ih
theorem Lx.snoc {x y : Nat} (h : x < y) : ∀ p : List Nat, Lx (p ++ [x]) (p ++ [y])
  | [] => .lt h
  | _ :: p => .eq (Lx.snoc h p)
theorem Lx.trans {p q r : List Nat} (h : Lx p q) (g : Lx q r) : Lx p r := by
  induction h generalizing r with
  | lt h =>
    cases g with
    | lt g => exact .lt (Nat.lt_trans h g)
    | eq g => exact .lt h
  | eq _ ih =>
    cases g with
    | lt g => exact .lt g
    | eq g => exact .eq (ih g)
def lst (p : List Nat) : Nat := p.getLastD 0
theorem lst_snoc (p : List Nat) (x : Nat) : lst (p ++ [x]) = x := by simp [lst, List.getLastD_eq_getLast?]
theorem lst_some {p : List Nat} (h : p ≠ []) : p.getLast? = some (lst p) := by
  rw [List.getLast?_eq_some_getLast h]
  simp [lst, List.getLastD_eq_getLast?, List.getLast?_eq_some_getLast h]
section
variable {n : Nat} {f : Nat → Nat → Int} {h : Int} {i : Nat}
def frsh (n : Nat) (f : Nat → Nat → Int) (h : Int) (p : List Nat) (seen : List Nat) : List Nat := (List.range n).filter fun x => decide (f (lst p) x ≤ h) && decide (x ∉ seen)
theorem mem_frsh {p seen : List Nat} {x : Nat} : x ∈ frsh n f h p seen ↔ x < n ∧ f (lst p) x ≤ h ∧ x ∉ seen := by
  unfold frsh
  rw [List.mem_filter, List.mem_range, Bool.and_eq_true, decide_eq_true_iff, decide_eq_true_iff]
theorem frsh_nd (p seen : List Nat) : (frsh n f h p seen).Nodup := List.Pairwise.filter _ List.nodup_range
theorem frsh_asc (p seen : List Nat) : (frsh n f h p seen).Pairwise (· < ·) := List.Pairwise.filter _ List.pairwise_lt_range
def layer (n : Nat) (f : Nat → Nat → Int) (h : Int) : List (List Nat) → List Nat → List (List Nat)
  | [], _ => []
  | p :: ps, seen => ((frsh n f h p seen).map fun x => p ++ [x]) ++ layer n f h ps (seen ++ frsh n f h p seen)
theorem lst_kids (p : List Nat) (l : List Nat) : (l.map fun x => p ++ [x]).map lst = l := by
  rw [List.map_map]
  conv => rhs; rw [← List.map_id l]
  exact List.map_congr_left fun x _ => lst_snoc p x
theorem layer_mem : ∀ (L : List (List Nat)) (seen : List Nat) (c : List Nat), c ∈ layer n f h L seen → ∃ L1 p L2 x, L = L1 ++ p :: L2 ∧ c = p ++ [x] ∧ x < n ∧ f (lst p) x ≤ h ∧ x ∉ seen ∧ ∀ q ∈ L1, ¬ f (lst q) x ≤ h
  | [], _, c, hc => by simp [layer] at hc
  | p :: ps, seen, c, hc => by
    rcases List.mem_append.mp (show c ∈ ((frsh n f h p seen).map fun x => p ++ [x]) ++ layer n f h ps (seen ++ frsh n f h p seen) from hc) with z | z
    · obtain ⟨x, hx, rfl⟩ := List.mem_map.mp z
      obtain ⟨h1, h2, h3⟩ := mem_frsh.mp hx
      exact ⟨[], p, ps, x, rfl, rfl, h1, h2, h3, fun q hq => by simp at hq⟩
    · obtain ⟨L1, q, L2, x, e, rfl, h1, h2, h3, h4⟩ := layer_mem ps _ c z
      rw [List.mem_append, not_or] at h3
      refine ⟨p :: L1, q, L2, x, by rw [e]; rfl, rfl, h1, h2, h3.1, fun r hr => ?_⟩
      rcases List.mem_cons.mp hr with y | y
      · subst y
        exact fun g => h3.2 (mem_frsh.mpr ⟨h1, g, h3.1⟩)
      · exact h4 r y
theorem layer_cov : ∀ (L : List (List Nat)) (seen : List Nat) (p : List Nat), p ∈ L → ∀ x, x < n → f (lst p) x ≤ h → x ∈ seen ∨ x ∈ (layer n f h L seen).map lst
  | [], _, p, hp, _, _, _ => by simp at hp
  | q :: ps, seen, p, hp, x, hx, hf => by
    show x ∈ seen ∨ x ∈ (((frsh n f h q seen).map fun x => q ++ [x]) ++ layer n f h ps (seen ++ frsh n f h q seen)).map lst
    rw [List.map_append, lst_kids, List.mem_append]
    rcases List.mem_cons.mp hp with y | y
    · subst y
      by_cases hs : x ∈ seen
      · exact .inl hs
      · exact .inr (.inl (mem_frsh.mpr ⟨hx, hf, hs⟩))
    · rcases layer_cov ps (seen ++ frsh n f h q seen) p y x hx hf with z | z
      · rcases List.mem_append.mp z with z | z
        · exact .inl z
        · exact .inr (.inl z)
      · exact .inr (.inr z)
theorem layer_nd : ∀ (L : List (List Nat)) (seen : List Nat), seen.Nodup → (seen ++ (layer n f h L seen).map lst).Nodup
  | [], seen, hs => by simpa [layer] using hs
  | q :: ps, seen, hs => by
    show (seen ++ (((frsh n f h q seen).map fun x => q ++ [x]) ++ layer n f h ps (seen ++ frsh n f h q seen)).map lst).Nodup
    rw [List.map_append, lst_kids, ← List.append_assoc]
    refine layer_nd ps _ ?_
    rw [List.nodup_append]
    exact ⟨hs, frsh_nd _ _, fun a ha b hb e => (mem_frsh.mp hb).2.2 (e ▸ ha)⟩
theorem layer_srt : ∀ (L : List (List Nat)) (seen : List Nat), L.Pairwise Lx → (layer n f h L seen).Pairwise Lx
  | [], _, _ => .nil
  | p :: ps, seen, hs => by
    obtain ⟨h1, h2⟩ := List.pairwise_cons.mp hs
    show (((frsh n f h p seen).map fun x => p ++ [x]) ++ layer n f h ps (seen ++ frsh n f h p seen)).Pairwise Lx
    rw [List.pairwise_append]
    refine ⟨List.pairwise_map.mpr ((frsh_asc p seen).imp fun hab => Lx.snoc hab p), layer_srt ps _ h2, fun a ha b hb => ?_⟩
    obtain ⟨x, _, rfl⟩ := List.mem_map.mp ha
    obtain ⟨L1, q, L2, y, e, rfl, _⟩ := layer_mem ps _ b hb
    exact (h1 q (by rw [e]; simp)).app _ _
theorem layer_skip : ∀ (A L : List (List Nat)) (seen : List Nat), (∀ p ∈ A, frsh n f h p seen = []) → layer n f h (A ++ L) seen = layer n f h L seen
  | [], _, _, _ => rfl
  | p :: A, L, seen, hA => by
    show ((frsh n f h p seen).map fun x => p ++ [x]) ++ layer n f h (A ++ L) (seen ++ frsh n f h p seen) = _
    rw [hA p (List.mem_cons_self ..), List.append_nil, List.map_nil, List.nil_append]
    exact layer_skip A L seen fun q hq => hA q (List.mem_cons_of_mem _ hq)
structure Gd (n : Nat) (f : Nat → Nat → Int) (h : Int) (i : Nat) (p : List Nat) : Prop where
  hd : p.head? = some i
  lt : ∀ x ∈ p, x < n
  st : Steps f h p
theorem Gd.ne {p : List Nat} (g : Gd n f h i p) : p ≠ [] := fun e => by
  have := g.hd
  rw [e] at this
  simp at this
theorem Gd.snoc {p : List Nat} {x : Nat} (g : Gd n f h i p) (hx : x < n) (hf : f (lst p) x ≤ h) : Gd n f h i (p ++ [x]) := by
  refine ⟨?_, fun y hy => ?_, fun m a b h1 h2 => ?_⟩
  · have hd := g.hd
    cases p with
    | nil => simp at hd
    | cons y r => simpa using hd
  · rcases List.mem_append.mp hy with z | z
    · exact g.lt y z
    · rw [List.mem_singleton.mp z]; exact hx
  · by_cases hl : m + 1 < p.length
    · rw [List.getElem?_append_left (by omega)] at h1
      rw [List.getElem?_append_left hl] at h2
      exact g.st m a b h1 h2
    · by_cases he : m + 1 = p.length
      · rw [List.getElem?_append_left (by omega)] at h1
        rw [List.getElem?_append_right (by omega), he, Nat.sub_self] at h2
        cases Option.some.inj h2
        have e := lst_some g.ne
        rw [List.getLast?_eq_getElem?, show p.length - 1 = m by omega, h1] at e
        cases Option.some.inj e
        exact hf
      · rw [List.getElem?_eq_none (by rw [List.length_append]; simp; omega)] at h2
        cases h2
/-- a good path is one item, or one that is longer by a step -/
theorem Gd.split {q : List Nat} (g : Gd n f h i q) : q = [i] ∨ ∃ r x, q = r ++ [x] ∧ Gd n f h i r ∧ x < n ∧ f (lst r) x ≤ h := by
  obtain ⟨r, x, rfl⟩ := split_last q g.ne
  by_cases hr : r = []
  · subst hr
    have := g.hd
    simp at this
    exact .inl (by rw [this]; rfl)
  · refine .inr ⟨r, x, rfl, ⟨?_, fun y hy => g.lt y (List.mem_append_left _ hy), fun m a b h1 h2 => ?_⟩, g.lt x (by simp), ?_⟩
    · have hd := g.hd
      cases r with
      | nil => exact absurd rfl hr
      | cons y s => simpa using hd
    · refine g.st m a b ?_ ?_
      · rw [List.getElem?_append_left (List.getElem?_eq_some_iff.mp h1).1]; exact h1
      · rw [List.getElem?_append_left (List.getElem?_eq_some_iff.mp h2).1]; exact h2
    · have hl : 0 < r.length := List.length_pos_iff.mpr hr
      have e := lst_some hr
      rw [List.getLast?_eq_getElem?] at e
      refine g.st (r.length - 1) _ _ ?_ ?_
      · rw [List.getElem?_append_left (by omega)]; exact e
      · rw [show r.length - 1 + 1 = r.length by omega, List.getElem?_append_right (Nat.le_refl _), Nat.sub_self]
        rfl
structure Bst (n : Nat) (f : Nat → Nat → Int) (h : Int) (i : Nat) (p : List Nat) : Prop where
  gd : Gd n f h i p
  mn : ∀ q, Gd n f h i q → lst q = lst p → p.length < q.length ∨ (p.length = q.length ∧ (p = q ∨ Lx p q))
structure Bfs (n : Nat) (f : Nat → Nat → Int) (h : Int) (i : Nat) (A L : List (List Nat)) (k : Nat) : Prop where
  nd : ((A ++ L).map lst).Nodup
  best : ∀ p ∈ A ++ L, Bst n f h i p
  nod : ∀ p ∈ A ++ L, p.Nodup ∧ ∀ x ∈ p, x ∈ (A ++ L).map lst
  len : ∀ p ∈ L, p.length = k + 1
  cl : ∀ p ∈ A, ∀ x, x < n → f (lst p) x ≤ h → x ∈ (A ++ L).map lst
  srt : L.Pairwise Lx
  near : ∀ q, Gd n f h i q → q.length ≤ k → lst q ∈ A.map lst
  root : i ∈ (A ++ L).map lst
theorem Bfs.start (hi : i < n) : Bfs n f h i [] [[i]] 0 := by
  have g1 : Gd n f h i [i] := ⟨rfl, fun x hx => by rw [List.mem_singleton.mp hx]; exact hi, fun m a b h1 h2 => by cases m <;> simp at h2⟩
  refine ⟨by simp, fun p hp => ?_, fun p hp => ?_, fun p hp => ?_, fun p hp => by simp at hp, by simp, fun q g hq => ?_, by simp [lst]⟩
  · simp at hp
    subst hp
    refine ⟨g1, fun q g e => ?_⟩
    have hl : 0 < q.length := List.length_pos_iff.mpr g.ne
    by_cases h1 : q.length = 1
    · refine .inr ⟨h1.symm, .inl ?_⟩
      match q, h1 with
      | [x], _ =>
        have := g.hd
        simp at this
        rw [this]
    · exact .inl (by show 1 < _; omega)
  · simp at hp
    subst hp
    exact ⟨by simp, fun x hx => by rw [List.mem_singleton.mp hx]; simp [lst]⟩
  · simp at hp
    subst hp
    rfl
  · exact absurd (List.length_pos_iff.mpr g.ne) (by omega)
theorem Bfs.next {A L : List (List Nat)} {k : Nat} (b : Bfs n f h i A L k) : Bfs n f h i (A ++ L) (layer n f h L ((A ++ L).map lst)) (k + 1) := by
  have near' : ∀ q, Gd n f h i q → q.length ≤ k + 1 → lst q ∈ (A ++ L).map lst := fun q g hq => by
    by_cases hk : q.length ≤ k
    · rw [List.map_append]
      exact List.mem_append_left _ (b.near q g hk)
    · rcases g.split with e | ⟨r, x, rfl, gr, hx, hf⟩
      · subst e
        exact b.root
      · rw [List.length_append] at hq hk
        have hq' : r.length + 1 ≤ k + 1 := hq
        have := b.near r gr (by omega)
        obtain ⟨p, hp, e⟩ := List.mem_map.mp this
        rw [lst_snoc]
        exact b.cl p hp x hx (by rw [e]; exact hf)
  have mem : ∀ c, c ∈ layer n f h L ((A ++ L).map lst) → ∃ L1 p L2 x, L = L1 ++ p :: L2 ∧ c = p ++ [x] ∧ x < n ∧ f (lst p) x ≤ h ∧ x ∉ (A ++ L).map lst ∧ ∀ q ∈ L1, ¬ f (lst q) x ≤ h := layer_mem _ _
  have inL : ∀ {p : List Nat}, p ∈ L → p ∈ A ++ L := fun hp => List.mem_append_right _ hp
  refine ⟨?_, fun c hc => ?_, fun c hc => ?_, fun c hc => ?_, fun p hp x hx hf => ?_, layer_srt _ _ b.srt, near', ?_⟩
  · rw [List.map_append]
    exact layer_nd _ _ b.nd
  · rcases List.mem_append.mp hc with z | z
    · exact b.best c z
    · obtain ⟨L1, p, L2, x, e, rfl, hx, hf, hs, hfirst⟩ := mem c z
      have hp : p ∈ L := by rw [e]; simp
      have gp := (b.best p (inL hp)).gd
      refine ⟨gp.snoc hx hf, fun q g eq => ?_⟩
      rw [lst_snoc] at eq
      have lp := b.len p hp
      have hq : ¬ q.length ≤ k + 1 := fun hq => hs (by rw [← eq]; exact near' q g hq)
      rw [List.length_append]
      by_cases hq2 : q.length = k + 2
      · refine .inr ⟨by show p.length + 1 = _; omega, ?_⟩
        rcases g.split with e1 | ⟨r, y, rfl, gr, hy, hfr⟩
        · rw [e1] at hq2
          simp at hq2
        · rw [lst_snoc] at eq
          subst eq
          rw [List.length_append] at hq2
          have hr : r.length = k + 1 := by
            have : r.length + 1 = k + 2 := hq2
            omega
          have hin := near' r gr (by omega)
          rw [List.map_append] at hin
          rcases List.mem_append.mp hin with z | z
          · obtain ⟨a, ha, ea⟩ := List.mem_map.mp z
            exact absurd (b.cl a ha y hy (by rw [ea]; exact hfr)) hs
          · obtain ⟨a, ha, ea⟩ := List.mem_map.mp z
            have hfa : f (lst a) y ≤ h := by rw [ea]; exact hfr
            have pa : p = a ∨ Lx p a := by
              rw [e] at ha
              rcases List.mem_append.mp ha with w | w
              · exact absurd hfa (hfirst a w)
              · rcases List.mem_cons.mp w with w | w
                · exact .inl w.symm
                · have := b.srt
                  rw [e, List.pairwise_append] at this
                  exact .inr ((List.pairwise_cons.mp this.2.1).1 a w)
            rcases (b.best a (inL ha)).mn r gr ea.symm with w | ⟨_, w⟩
            · have := b.len a ha
              omega
            · have pr : p = r ∨ Lx p r := by
                rcases pa with u | u <;> rcases w with v | v
                · exact .inl (u.trans v)
                · exact .inr (u ▸ v)
                · exact .inr (v ▸ u)
                · exact .inr (u.trans v)
              rcases pr with u | u
              · exact .inl (by rw [u])
              · exact .inr (u.app _ _)
      · exact .inl (by show p.length + 1 < _; omega)
  · rcases List.mem_append.mp hc with z | z
    · refine ⟨(b.nod c z).1, fun x hx => ?_⟩
      rw [List.map_append]
      exact List.mem_append_left _ ((b.nod c z).2 x hx)
    · obtain ⟨L1, p, L2, x, e, rfl, hx, hf, hs, _⟩ := mem c z
      have hp : p ∈ L := by rw [e]; simp
      obtain ⟨n1, n2⟩ := b.nod p (inL hp)
      refine ⟨?_, fun y hy => ?_⟩
      · rw [List.nodup_append]
        refine ⟨n1, by simp, fun a ha b' hb => ?_⟩
        rw [List.mem_singleton.mp hb]
        exact fun e => hs (e ▸ n2 a ha)
      · rw [List.map_append]
        rcases List.mem_append.mp hy with w | w
        · exact List.mem_append_left _ (n2 y w)
        · rw [List.mem_singleton.mp w]
          exact List.mem_append_right _ (List.mem_map.mpr ⟨_, z, lst_snoc _ _⟩)
  · obtain ⟨L1, p, L2, x, e, rfl, _⟩ := mem c hc
    rw [List.length_append, b.len p (by rw [e]; simp)]
    rfl
  · rw [List.map_append]
    rcases List.mem_append.mp hp with z | z
    · exact List.mem_append_left _ (b.cl p z x hx hf)
    · exact List.mem_append.mpr (layer_cov _ _ p z x hx hf)
  · rw [List.map_append]
    exact List.mem_append_left _ b.root
/-- what all paths add is what the last ones add -/
theorem Bfs.all {A L : List (List Nat)} {k : Nat} (b : Bfs n f h i A L k) : layer n f h (A ++ L) ((A ++ L).map lst) = layer n f h L ((A ++ L).map lst) := by
  refine layer_skip A L _ fun p hp => ?_
  refine List.eq_nil_iff_forall_not_mem.mpr fun x hx => ?_
  obtain ⟨h1, h2, h3⟩ := mem_frsh.mp hx
  exact h3 (b.cl p hp x h1 h2)
end
end Ml
namespace Ml
open PySem PySem.Spec PyProof.Rows L2
/-! ### pairs as data -/
abbrev e2 (p : Nat × Nat) : List Int := [(p.1 : Int), (p.2 : Int)]
theorem Prs.kp {K : PySem.W.Frag} {H H' : Hp} {d c r : Addr} {n : Nat} {vs : List V} {E : List (Nat × Nat)} (h : Prs K H vs E) (g : Dr H d c r n) (e : Kp d r H H') : Prs K H' vs E :=
  ⟨h.1, fun i v p a b => let ⟨q, h1, h2⟩ := h.2 i v p a b; ⟨q, h1, g.kpT e h2⟩⟩
theorem TT.upd {K : PySem.W.Frag} {H : Hp} {p : Addr} {ys zs : List V} {v : V} {t : List (List Int)} (h : TT K H v t) (hp : H p = some (.lst ys)) : TT K (L2.upd H p (.lst zs)) v t := by
  obtain ⟨q, vs, h1, h2, h3⟩ := h
  exact ⟨q, vs, h1, sqT_upd hp h2, h3.upd hp⟩
end Ml
namespace Ml
open PySem PySem.Spec PyProof.Rows L2
/-! ### the least of some data -/
abbrev tupD (p : List Nat) : PyData := .tuple ((iL p).map PyData.int)
abbrev D3 (a : Int) (p : List Nat) : PyData := .tuple [.int a, .int (p.length : Int), tupD p]
theorem dpAll_of {K : PySem.W.Frag} {H : Hp} : ∀ {us : List V} {ds : List PyData}, us.length = ds.length → (∀ (i : Nat) v d, us[i]? = some v → ds[i]? = some d → Dp K H v d) → DpAll K H us ds
  | [], [], _, _ => .nil
  | u :: us, d :: ds, hl, h => .cons (h 0 u d rfl rfl) (dpAll_of (by simpa using hl) fun i v e a b => h (i + 1) v e (by simpa using a) (by simpa using b))
end Ml
namespace Ml
open PySem PySem.Spec PyProof.Rows L2
/-! ### groups -/
structure GrF (F : Nat → Nat → Int) (n : Nat) (l : Int) : Prop where
  self : ∀ i, i < n → F i i ≤ l
  sym : ∀ i j, F i j = F j i
  tri : ∀ i j k, i < n → j < n → k < n → F i j ≤ max (F i k) (F k j)
def grp (F : Nat → Nat → Int) (n : Nat) (l : Int) (i : Nat) : List Nat := (List.range n).filter fun j => decide (F i j ≤ l)
theorem mem_grp {F : Nat → Nat → Int} {n : Nat} {l : Int} {i j : Nat} : j ∈ grp F n l i ↔ j < n ∧ F i j ≤ l := by
  unfold grp
  rw [List.mem_filter, List.mem_range, decide_eq_true_iff]
section
variable {F : Nat → Nat → Int} {n : Nat} {l : Int}
theorem grp_self (G : GrF F n l) {i : Nat} (hi : i < n) : i ∈ grp F n l i := mem_grp.mpr ⟨hi, G.self i hi⟩
end
theorem grp_ne {F : Nat → Nat → Int} {n : Nat} {l : Int} (G : GrF F n l) {i : Nat} (hi : i < n) : grp F n l i ≠ [] := fun e => by
  have := grp_self G hi
  rw [e] at this
  cases this
def hdI (k : List Int) : Int := k.headD 0
/-- the groups in the order of their first items -/
def heads (F : Nat → Nat → Int) (n : Nat) (l : Int) (m : Nat) : List Nat := (List.range m).filter fun i => decide ((grp F n l i).head? = some i)
def gsL (F : Nat → Nat → Int) (n : Nat) (l : Int) (m : Nat) : List (List Nat) := (heads F n l m).map (grp F n l)
end Ml
namespace Ml
open PySem PySem.Spec PyProof.Rows L2 TL
/-! ### texts as lists of signs -/
def numI (i : Int) : List Nat := numL i.toNat
theorem tl_int {i : Int} (h : 0 ≤ i) : tl (toString i : Str) = numI i := by
  obtain ⟨n, rfl⟩ : ∃ n : Nat, i = (n : Int) := ⟨i.toNat, by omega⟩
  exact tl_num n
theorem numI_inj {i j : Int} (hi : 0 ≤ i) (hj : 0 ≤ j) (h : numI i = numI j) : i = j := by
  have := numL_inj h
  omega
theorem numI_len {i : Int} (h : i < 10000000000000) : (numI i).length ≤ 13 := numL_len (by decide) (by
  have e : (10 : Nat) ^ 13 = 10000000000000 := by decide
  omega)
theorem digit_ok : ∀ c : Nat, c < 58 → 48 ≤ c → Unicode.isDigit c = true := by decide
theorem num_facts {s : Str} {i : Int} (h0 : 0 ≤ i) (h : i < 10000000000000) (e : tl s = numI i) : Txt.removeprefix s ("-" : Str) = s ∧ Txt.isascii s = true ∧ Txt.isdigit s = true ∧ s.length ≤ 13 ∧ intText? s = some i ∧ s = (toString i : Str) := by
  have dg : ∀ c ∈ tl s, 48 ≤ c ∧ c ≤ 57 := fun c hc => by
    rw [e] at hc
    have := numL_digits i.toNat c hc
    omega
  have ne : tl s ≠ [] := by rw [e]; exact numL_ne _
  have es : s = (toString i : Str) := ext_tl (by rw [e, tl_int h0])
  have len : s.length ≤ 13 := by rw [len_tl, e]; exact numI_len h
  refine ⟨?_, ?_, ?_, len, ?_, es⟩
  · have no : Builtin.Str.subAt s ("-" : Str) 0 = false := by
      rw [PySem.StrLaws.subAt_eq, beq_eq_false_iff_ne]
      intro z
      have m : ("-" : Str).cps.toList = [45] := by decide +kernel
      have m2 : ("-" : Str).length = 1 := by decide +kernel
      rw [m, m2, List.drop_zero] at z
      cases hc : s.cps.toList with
      | nil => exact ne hc
      | cons c r =>
        rw [hc] at z
        have z1 : c = 45 := (List.cons.inj z).1
        have := dg c (by show c ∈ s.cps.toList; rw [hc]; exact List.mem_cons_self)
        omega
    unfold Txt.removeprefix
    rw [no]
    rfl
  · show s.cps.all (· < 128) = true
    rw [← Array.all_toList]
    refine List.all_eq_true.mpr fun c hc => ?_
    have := dg c hc
    exact decide_eq_true (by omega)
  · show (decide (s.length > 0) && s.cps.all Unicode.isDigit) = true
    rw [Bool.and_eq_true]
    refine ⟨decide_eq_true ?_, ?_⟩
    · rw [len_tl]
      exact List.length_pos_iff.mpr ne
    · rw [← Array.all_toList]
      refine List.all_eq_true.mpr fun c hc => ?_
      have := dg c hc
      exact digit_ok c (by omega) this.1
  · rw [es]
    obtain ⟨n, rfl⟩ : ∃ n : Nat, i = (n : Int) := ⟨i.toNat, by omega⟩
    exact int_num (by have := numI_len h; exact Nat.le_trans this (by decide))
/-- a text split at one sign -/
theorem split_codes {s y : Str} {c : Nat} (ey : tl y = [c]) (hk : y.cps.all (· < 256) = true) {parts : List (List Nat)} (hne : parts ≠ []) (hp : ∀ p ∈ parts, c ∉ p) (hs : tl s = joinL [c] parts) : (Txt.split s y).map tl = parts := by
  rw [split_spl _ y (by rw [ey]; simp) (kind_ok hk), ey, hs]
  exact spl_join hne hp
theorem joinL_flat (S : List Nat) : ∀ (w : List Nat) (ps : List (List Nat)), joinL S (w :: ps) = w ++ ps.flatMap (fun p => S ++ p)
  | w, [] => by simp [joinL]
  | w, p :: ps => by
    show w ++ (S ++ joinL S (p :: ps)) = _
    rw [joinL_flat S p ps, List.flatMap_cons, List.append_assoc]
/-! ### the text of a table -/
def wItems : List Nat := [105, 116, 101, 109, 115]
def wRow : List Nat := [114, 111, 119]
def cI (n : Nat) : List Nat := wItems ++ (32 :: numL n)
def cR (r : List Int) : List Nat := wRow ++ r.flatMap fun x => 32 :: numI x
def cLines (t : List (List Int)) : List (List Nat) := cI t.length :: (t.drop 1).map cR
def ctab (t : List (List Int)) : List Nat := (cLines t).flatMap fun l => l ++ [10]
theorem cR_len {r : List Int} (h : ∀ x ∈ r, LvOk x) : (cR r).length ≤ 3 + 14 * r.length := by
  unfold cR
  have : ∀ q : List Int, (∀ x ∈ q, LvOk x) → (q.flatMap fun x => 32 :: numI x).length ≤ 14 * q.length := fun q => by
    induction q with
    | nil => exact fun _ => Nat.zero_le _
    | cons x q ih =>
      intro hq
      have a := ih fun y hy => hq y (List.mem_cons_of_mem _ hy)
      have b := numI_len (i := x) (by have := (hq x List.mem_cons_self).2; omega)
      rw [List.flatMap_cons, List.length_append, List.length_cons, List.length_cons, Nat.mul_succ]
      omega
  have a := this r h
  rw [List.length_append]
  have : wRow.length = 3 := rfl
  omega
theorem flat_len {α : Type} {f : α → List Nat} {B : Nat} : ∀ {l : List α}, (∀ x ∈ l, (f x).length ≤ B) → (l.flatMap f).length ≤ B * l.length
  | [], _ => Nat.zero_le _
  | x :: l, h => by
    have a := flat_len (l := l) fun y hy => h y (List.mem_cons_of_mem _ hy)
    have b := h x List.mem_cons_self
    rw [List.flatMap_cons, List.length_append, List.length_cons, Nat.mul_succ]
    omega
theorem cI_len {n : Nat} (h : n ≤ 20) : (cI n).length ≤ 19 := by
  have := numL_len (n := n) (k := 2) (by decide) (by omega)
  unfold cI
  rw [List.length_append, List.length_cons]
  have : wItems.length = 5 := rfl
  omega
theorem nf_items : (10 : Nat) ∉ wItems ∧ (32 : Nat) ∉ wItems := by decide
theorem wt_row {t : List (List Int)} (hW : WT t) {r : List Int} (h : r ∈ t) : ∀ x ∈ r, LvOk x := by
  obtain ⟨i, hi⟩ := List.getElem?_of_mem h
  exact (hW i r hi).2
/-! ### the text of a tree -/
end Ml
namespace Ml
open PySem PySem.Spec PyProof.Rows L2 TL
/-! ### reading any text: what a word, a line, a text says -/
theorem val_snoc (l : List Nat) (d : Nat) : NumText.digitsVal (l ++ [d]) = NumText.digitsVal l * 10 + (d - 48) := by
  unfold NumText.digitsVal
  rw [List.foldl_append]
  rfl
theorem numL_back : ∀ (n : Nat) (l : List Nat), l.length = n → l ≠ [] → NumText.AllDigits l → l.head? ≠ some 48 → numL (NumText.digitsVal l) = l ∧ 1 ≤ NumText.digitsVal l
  | n, l, hn, hne, hd, hh => by
    rcases List.eq_nil_or_concat l with e | ⟨i, d, e⟩
    · exact absurd e hne
    rw [List.concat_eq_append] at e
    subst e
    have dd := hd d (by simp)
    rw [val_snoc]
    cases i with
    | nil =>
      have d0 : d ≠ 48 := fun z => hh (by rw [z]; rfl)
      have e0 : NumText.digitsVal [] = 0 := rfl
      rw [e0, Nat.zero_mul, Nat.zero_add]
      refine ⟨?_, by omega⟩
      rw [numL_lt (by omega), show 48 + (d - 48) = d by omega]
      rfl
    | cons a i =>
      have hn' : (a :: i).length < n := by rw [← hn, List.length_append]; simp
      obtain ⟨g1, g2⟩ := numL_back _ (a :: i) rfl (by simp) (fun c hc => hd c (List.mem_append_left _ hc)) (by simpa using hh)
      refine ⟨?_, by omega⟩
      rw [numL_step (by omega), show (NumText.digitsVal (a :: i) * 10 + (d - 48)) / 10 = NumText.digitsVal (a :: i) by omega, show 48 + (NumText.digitsVal (a :: i) * 10 + (d - 48)) % 10 = d by omega, g1]
termination_by n => n
theorem ascii_digit : ∀ c : Nat, c < 128 → Unicode.isDigit c = true → 48 ≤ c ∧ c ≤ 57 := by decide +kernel
theorem digits_of79 {s : Str} (ha : Txt.isascii s = true) (hd : Txt.isdigit s = true) : NumText.AllDigits (tl s) ∧ tl s ≠ [] := by
  have ha' : s.cps.all (· < 128) = true := ha
  have hd' : (decide (s.length > 0) && s.cps.all Unicode.isDigit) = true := hd
  rw [Bool.and_eq_true] at hd'
  obtain ⟨h0, hd'⟩ := hd'
  rw [← Array.all_toList, List.all_eq_true] at ha' hd'
  refine ⟨fun c hc => ascii_digit c (by simpa using ha' c hc) (hd' c hc), fun e => ?_⟩
  have := of_decide_eq_true h0
  rw [len_tl, e] at this
  exact absurd this (by decide)
/-- the level that a word says -/
noncomputable def lvOf (s : Str) : Option Int := by
  classical
  exact if h : ∃ n : Int, LvOk n ∧ s = (toString n : Str) then some (Classical.choose h) else none
theorem str_int_inj {i j : Int} (hi : 0 ≤ i) (hj : 0 ≤ j) (h : (toString i : Str) = (toString j : Str)) : i = j := numI_inj hi hj (by rw [← tl_int hi, ← tl_int hj, h])
theorem lvOf_spec {s : Str} {n : Int} (h : lvOf s = some n) : LvOk n ∧ s = (toString n : Str) := by
  unfold lvOf at h
  split at h
  · rename_i g
    obtain rfl := Option.some.inj h
    exact Classical.choose_spec g
  · cases h
theorem lvOf_some {n : Int} (h : LvOk n) : lvOf (toString n : Str) = some n := by
  have g : ∃ m : Int, LvOk m ∧ (toString n : Str) = (toString m : Str) := ⟨n, h, rfl⟩
  unfold lvOf
  rw [dif_pos g]
  obtain ⟨a, b⟩ := Classical.choose_spec g
  congr 1
  exact (str_int_inj (by have := h.1; omega) (by have := a.1; omega) b).symm
theorem lvOf_none {s : Str} (h : ∀ n : Int, LvOk n → s ≠ (toString n : Str)) : lvOf s = none := by
  cases e : lvOf s with
  | none => rfl
  | some n => exact absurd (lvOf_spec e).2 (h n (lvOf_spec e).1)
/-- the levels of the words -/
noncomputable def lvAll : List Str → Option (List Int)
  | [] => some []
  | w :: ws => match lvOf w, lvAll ws with
    | some n, some r => some (n :: r)
    | _, _ => none
theorem lvAll_iff : ∀ {ws : List Str} {r : List Int}, lvAll ws = some r ↔ ws.map lvOf = r.map some
  | [], r => by
    unfold lvAll
    cases r with
    | nil => simp
    | cons a r => simp
  | w :: ws, r => by
    unfold lvAll
    rw [List.map_cons]
    cases hw : lvOf w with
    | none =>
      cases r <;> simp
    | some n =>
      cases hr : lvAll ws with
      | none =>
        simp only [reduceCtorEq, false_iff]
        intro e
        cases r with
        | nil => simp at e
        | cons a r =>
          have := lvAll_iff.mpr (List.cons.inj e).2
          rw [hr] at this
          cases this
      | some q =>
        have hq := lvAll_iff.mp hr
        constructor
        · intro e
          obtain rfl := Option.some.inj e
          rw [List.map_cons, hq]
        · intro e
          cases r with
          | nil => simp at e
          | cons a r =>
            obtain ⟨e1, e2⟩ := List.cons.inj e
            have e3 := lvAll_iff.mpr e2
            rw [hr] at e3
            obtain rfl := Option.some.inj e3
            obtain rfl := Option.some.inj e1
            rfl
theorem lvAll_none {ws : List Str} {w : Str} (h : w ∈ ws) (e : lvOf w = none) : lvAll ws = none := by
  cases g : lvAll ws with
  | none => rfl
  | some r =>
    have := lvAll_iff.mp g
    have m : none ∈ r.map some := by
      rw [← this, ← e]
      exact List.mem_map_of_mem h
    simp at m
theorem lvAll_len {ws : List Str} {r : List Int} (h : lvAll ws = some r) : r.length = ws.length := by
  have := congrArg List.length (lvAll_iff.mp h)
  rw [List.length_map, List.length_map] at this
  exact this.symm
theorem lvAll_ok {ws : List Str} {r : List Int} (h : lvAll ws = some r) : ∀ x ∈ r, LvOk x := fun x hx => by
  have m : some x ∈ ws.map lvOf := by
    rw [lvAll_iff.mp h]
    exact List.mem_map_of_mem hx
  obtain ⟨w, _, e⟩ := List.mem_map.mp m
  exact (lvOf_spec e).1
/-- the count that a line says -/
noncomputable def cntOf (s : Str) : Option Nat := by
  classical
  exact if h : ∃ n : Nat, (1 ≤ n ∧ n ≤ 12) ∧ tl s = cI n then some (Classical.choose h) else none
theorem cI_inj {m n : Nat} (h : cI m = cI n) : m = n := by
  have := List.append_cancel_left h
  exact numL_inj (List.cons.inj this).2
theorem cntOf_spec {s : Str} {n : Nat} (h : cntOf s = some n) : (1 ≤ n ∧ n ≤ 12) ∧ tl s = cI n := by
  unfold cntOf at h
  split at h
  · rename_i g
    obtain rfl := Option.some.inj h
    exact Classical.choose_spec g
  · cases h
theorem cntOf_some {s : Str} {n : Nat} (h : 1 ≤ n) (h' : n ≤ 12) (e : tl s = cI n) : cntOf s = some n := by
  have g : ∃ n : Nat, (1 ≤ n ∧ n ≤ 12) ∧ tl s = cI n := ⟨n, ⟨h, h'⟩, e⟩
  unfold cntOf
  rw [dif_pos g]
  congr 1
  exact cI_inj ((Classical.choose_spec g).2.symm.trans e)
theorem cntOf_none {s : Str} (h : ∀ n : Nat, 1 ≤ n → n ≤ 12 → tl s ≠ cI n) : cntOf s = none := by
  cases e : cntOf s with
  | none => rfl
  | some n => exact absurd (cntOf_spec e).2 (h n (cntOf_spec e).1.1 (cntOf_spec e).1.2)
/-- the row that a line says -/
noncomputable def rowOf (s : Str) (n : Nat) : Option (List Int) := match Txt.split s (Str.ofString " ") with
  | [] => none
  | w :: ws => if w = Str.ofString "row" ∧ ws.length = n then lvAll ws else none
theorem rowOf_ok {s : Str} {n : Nat} {r : List Int} (h : rowOf s n = some r) : r.length = n ∧ ∀ x ∈ r, LvOk x := by
  unfold rowOf at h
  split at h
  · cases h
  · rename_i w ws e
    split at h
    · rename_i g
      exact ⟨by rw [lvAll_len h, g.2], lvAll_ok h⟩
    · cases h
/-- the rows, from line i on -/
noncomputable def goR (c : Nat) : Nat → List Str → List (List Int) → Sum (List (List Int)) Nat
  | _, [], rows => .inl rows
  | i, l :: ls, rows => if c ≤ i then .inr i else match rowOf l i with
    | none => .inr i
    | some r => goR c (i + 1) ls (rows ++ [r])
theorem goR_wt {c : Nat} : ∀ {ls : List Str} {i : Nat} {rows t : List (List Int)}, WT rows → rows.length = i → i ≤ c → goR c i ls rows = .inl t → WT t ∧ t.length = i + ls.length ∧ t.length ≤ c
  | [], i, rows, t, hW, hl, hi, h => by
    unfold goR at h
    obtain rfl := Sum.inl.inj h
    exact ⟨hW, by rw [hl]; rfl, by omega⟩
  | l :: ls, i, rows, t, hW, hl, hi, h => by
    unfold goR at h
    split at h
    · cases h
    · split at h
      · cases h
      · rename_i hc r hr
        obtain ⟨z1, z2⟩ := rowOf_ok hr
        have hW' : WT (rows ++ [r]) := fun k q hq => by
          rcases Nat.lt_or_ge k rows.length with z | z
          · rw [List.getElem?_append_left z] at hq
            exact hW k q hq
          · rw [List.getElem?_append_right z] at hq
            obtain ⟨y1, y2⟩ := List.getElem?_eq_some_iff.mp hq
            have e0 : k - rows.length = 0 := by simp at y1; omega
            rw [e0] at hq
            obtain rfl := Option.some.inj (show some r = some q from hq)
            exact ⟨by omega, z2⟩
        obtain ⟨a, b, c'⟩ := goR_wt (i := i + 1) (rows := rows ++ [r]) hW' (by rw [List.length_append, hl]; rfl) (by omega) h
        exact ⟨a, by rw [b, List.length_cons]; omega, c'⟩
/-- what the lines say -/
noncomputable def plOf : List Str → Sum (Nat × List (List Int)) Nat
  | [] => .inr 0
  | l :: ls => match cntOf l with
    | none => .inr 0
    | some c => match goR c 1 ls [[]] with
      | .inr k => .inr k
      | .inl rows => .inl (c, rows)
theorem wt_nil1 : WT [([] : List Int)] := fun k q hq => by
  obtain ⟨y1, y2⟩ := List.getElem?_eq_some_iff.mp hq
  have : k = 0 := by simp at y1; omega
  subst this
  obtain rfl := Option.some.inj (show some [] = some q from hq)
  exact ⟨rfl, fun x hx => absurd hx List.not_mem_nil⟩
theorem plOf_ok {ls : List Str} {c : Nat} {rows : List (List Int)} (h : plOf ls = .inl (c, rows)) : WT rows ∧ rows.length = ls.length ∧ rows.length ≤ c ∧ 1 ≤ c ∧ c ≤ 12 := by
  cases ls with
  | nil => cases h
  | cons l ls =>
    unfold plOf at h
    dsimp only at h
    cases hc : cntOf l with
    | none => rw [hc] at h; cases h
    | some c' =>
      rw [hc] at h
      dsimp only at h
      cases hg : goR c' 1 ls [[]] with
      | inr k => rw [hg] at h; cases h
      | inl t =>
        rw [hg] at h
        obtain ⟨rfl, rfl⟩ := Prod.mk.inj (Sum.inl.inj h)
        obtain ⟨⟨z1, z2⟩, _⟩ := cntOf_spec hc
        obtain ⟨a, b, d⟩ := goR_wt (i := 1) wt_nil1 rfl z1 hg
        exact ⟨a, by rw [b, List.length_cons]; omega, d, z1, z2⟩
/-- what a text says: its lines, and whether the last one is open -/
noncomputable def sayOf (ls : List Str) (rest : Bool) : Sum (List (List Int)) Nat := match plOf ls with
  | .inr k => .inr k
  | .inl (c, rows) => if rest = true ∨ rows.length < c then .inr ls.length else .inl rows
theorem sayOf_ok {ls : List Str} {rest : Bool} {t : List (List Int)} (h : sayOf ls rest = .inl t) : WT t ∧ 1 ≤ t.length ∧ t.length ≤ 12 := by
  unfold sayOf at h
  split at h
  · cases h
  · rename_i c rows e
    obtain ⟨a, b, d, e1, e2⟩ := plOf_ok e
    split at h
    · cases h
    · rename_i g
      obtain rfl := Sum.inl.inj h
      exact ⟨a, by omega, by omega⟩
/-- the lines of a text; the last one, when it is not empty -/
def linesOf (s : Str) : List Str := let p := Txt.split s (Str.ofString "\n")
  p.dropLast ++ (match p.getLast? with | some z => if z.length = 0 then [] else [z] | none => [])
def restOf (s : Str) : Bool := match (Txt.split s (Str.ofString "\n")).getLast? with | some z => !decide (z.length = 0) | none => false
noncomputable def out79 (s : Str) : Sum (List (List Int)) Nat := sayOf (linesOf s) (restOf s)
theorem lines_snoc {s z : Str} {p : List Str} (h : Txt.split s (Str.ofString "\n") = p ++ [z]) : (z.length = 0 → linesOf s = p ∧ restOf s = false) ∧ (z.length ≠ 0 → linesOf s = p ++ [z] ∧ restOf s = true) := by
  unfold linesOf restOf
  simp only [h, List.dropLast_concat, List.getLast?_concat]
  refine ⟨fun e => ?_, fun e => ?_⟩
  · rw [if_pos e, List.append_nil, decide_eq_true e]
    exact ⟨rfl, rfl⟩
  · rw [if_neg e, decide_eq_false e]
    exact ⟨rfl, rfl⟩
/-! ### splitting and joining: how long -/
def ms (ps : List (List Nat)) : Nat := (ps.map fun p => p.length + 1).sum
theorem ms_nil : ms [] = 0 := rfl
theorem ms_cons (p : List Nat) (ps : List (List Nat)) : ms (p :: ps) = p.length + 1 + ms ps := rfl
theorem ms_app (a b : List (List Nat)) : ms (a ++ b) = ms a + ms b := by
  unfold ms
  rw [List.map_append, List.sum_append]
theorem spl_ms (S : List Nat) : ∀ (l : List Nat) (k : Nat) (acc : List Nat), ms (spl S k acc l) ≤ acc.length + l.length + 1
  | [], k, acc => by rw [spl_nil]; rw [ms_cons, ms_nil]; simp
  | c :: r, 0, acc => by
    unfold spl
    split
    · rw [ms_cons]
      have := spl_ms S r (S.length - 1) []
      simp only [List.length_nil, List.length_cons] at *
      omega
    · have := spl_ms S r 0 (acc ++ [c])
      rw [List.length_append] at this
      simp only [List.length_nil, List.length_cons] at *
      omega
  | c :: r, k + 1, acc => by
    unfold spl
    have := spl_ms S r k acc
    rw [List.length_cons]
    omega
theorem spl_ne (S : List Nat) : ∀ (l : List Nat) (k : Nat) (acc : List Nat), spl S k acc l ≠ []
  | [], k, acc => by rw [spl_nil]; simp
  | c :: r, 0, acc => by
    unfold spl
    split
    · simp
    · exact spl_ne S r 0 _
  | c :: r, k + 1, acc => by
    unfold spl
    exact spl_ne S r k acc
theorem join_spl1 (c : Nat) : ∀ (l acc : List Nat), joinL [c] (spl [c] 0 acc l) = acc ++ l
  | [], acc => by
    rw [spl_nil, joinL_flat]
    simp
  | a :: r, acc => by
    unfold spl
    have ih := join_spl1 c r []
    by_cases h : pre [c] (a :: r) = true
    · rw [if_pos h]
      have e : a = c := by
        have h' : (List.take 1 (a :: r) == [c]) = true := h
        have := eq_of_beq h'
        exact (List.cons.inj this).1
      subst e
      show joinL [a] (acc :: spl [a] 0 [] r) = _
      obtain ⟨b, t, eb⟩ : ∃ b t, spl [a] 0 [] r = b :: t := by
        cases e : spl [a] 0 [] r with
        | nil => exact absurd e (spl_ne _ _ _ _)
        | cons b t => exact ⟨b, t, rfl⟩
      rw [eb] at ih ⊢
      rw [joinL_flat] at ih
      rw [joinL_flat, List.flatMap_cons, List.append_assoc, ih]
      rfl
    · rw [if_neg h, join_spl1 c r (acc ++ [a]), List.append_assoc]
      rfl
def mS (ps : List Str) : Nat := ms (ps.map tl)
theorem mS_nil : mS [] = 0 := rfl
theorem mS_cons (p : Str) (ps : List Str) : mS (p :: ps) = p.length + 1 + mS ps := by
  unfold mS
  rw [List.map_cons, ms_cons, len_tl]
theorem mS_app (a b : List Str) : mS (a ++ b) = mS a + mS b := by
  unfold mS
  rw [List.map_append, ms_app]
theorem mS_mem {p : Str} : ∀ {ps : List Str}, p ∈ ps → p.length + 1 ≤ mS ps
  | q :: ps, h => by
    rw [mS_cons]
    rcases List.mem_cons.mp h with rfl | h
    · omega
    · have := mS_mem h
      omega
theorem mS_len : ∀ (ps : List Str), ps.length ≤ mS ps
  | [] => Nat.le_refl _
  | p :: ps => by
    rw [mS_cons, List.length_cons]
    have := mS_len ps
    omega
theorem mS_take (k : Nat) (ps : List Str) : mS (ps.take k) + mS (ps.drop k) = mS ps := by
  rw [← mS_app, List.take_append_drop]
theorem mS_rev : ∀ (ps : List Str), mS ps.reverse = mS ps
  | [] => rfl
  | p :: ps => by
    rw [List.reverse_cons, mS_app, mS_rev ps, mS_cons, mS_cons, mS_nil]
    omega
theorem split_ms {s y : Str} {c : Nat} (ey : tl y = [c]) (hk : y.cps.all (· < 256) = true) : mS (Txt.split s y) ≤ s.length + 1 ∧ Txt.split s y ≠ [] := by
  have e : (Txt.split s y).map tl = spl [c] 0 [] (tl s) := by
    rw [split_spl _ y (by rw [ey]; simp) (kind_ok hk), ey]
  refine ⟨?_, fun z => ?_⟩
  · unfold mS
    rw [e, len_tl]
    have := spl_ms [c] (tl s) 0 []
    simpa using this
  · rw [z] at e
    exact absurd e.symm (spl_ne _ _ _ _)
theorem join_split1 {s y : Str} {c : Nat} (ey : tl y = [c]) (hk : y.cps.all (· < 256) = true) : joinL [c] ((Txt.split s y).map tl) = tl s := by
  rw [split_spl _ y (by rw [ey]; simp) (kind_ok hk), ey]
  exact join_spl1 c (tl s) []
theorem join_ms {y : Str} {c : Nat} (ey : tl y = [c]) (ps : List Str) : (Str.join y ps).length ≤ mS ps := by
  rw [len_tl, tl_join, ey]
  unfold mS
  cases ps with
  | nil => exact Nat.zero_le _
  | cons p ps =>
    rw [List.map_cons, joinL_flat, List.length_append, ms_cons]
    have : ∀ qs : List (List Nat), (qs.flatMap fun q => [c] ++ q).length ≤ ms qs := fun qs => by
      induction qs with
      | nil => exact Nat.le_refl _
      | cons q qs ih =>
        rw [List.flatMap_cons, List.length_append, List.length_append, ms_cons]
        simp only [List.length_cons, List.length_nil]
        omega
    have := this (ps.map tl)
    omega
end Ml
namespace Ml
open PySem PySem.Spec PyProof.Rows L2 TL
/-! ### what int(..) gives of a word -/
theorem val_lt : ∀ (n : Nat) (l : List Nat), l.length = n → NumText.AllDigits l → NumText.digitsVal l < 10 ^ n
  | n, l, hn, hd => by
    rcases List.eq_nil_or_concat l with e | ⟨i, d, e⟩
    · subst e
      subst hn
      decide
    rw [List.concat_eq_append] at e
    subst e
    have dd := hd d (by simp)
    rw [List.length_append] at hn
    have hn' : i.length < n := by rw [← hn]; simp
    have ih := val_lt i.length i rfl fun c hc => hd c (List.mem_append_left _ hc)
    rw [val_snoc, ← hn]
    show _ < 10 ^ (i.length + 1)
    rw [Nat.pow_succ]
    omega
termination_by n => n
theorem int_word {s : Str} (ha : Txt.isascii (Txt.removeprefix s (Str.ofString "-")) = true) (hd : Txt.isdigit (Txt.removeprefix s (Str.ofString "-")) = true) (hl : (Txt.removeprefix s (Str.ofString "-")).length ≤ 13) :
    ∃ i : Int, intText? s = some i ∧ i.natAbs < 10 ^ 13 ∧ s.length ≤ 14 := by
  obtain ⟨g1, g2⟩ := digits_of79 ha hd
  rw [PySem.StrLaws.removeprefix_eq] at g1 g2 hl
  have m : (Str.ofString "-").cps.toList = [45] := by decide +kernel
  have m2 : (Str.ofString "-").length = 1 := by decide +kernel
  by_cases h : (decide (0 + (Str.ofString "-").length ≤ s.length) && Builtin.Str.subAt s (Str.ofString "-") 0) = true
  · rw [if_pos h] at g1 g2 hl
    rw [Bool.and_eq_true] at h
    obtain ⟨h1, h2⟩ := h
    have h1 := of_decide_eq_true h1
    rw [PySem.StrLaws.subAt_eq, m, m2, List.drop_zero] at h2
    have h2 := eq_of_beq h2
    rw [m2] at g1 g2 hl h1
    obtain ⟨cs, e⟩ : ∃ cs, s.cps.toList = 45 :: cs := by
      cases hc : s.cps.toList with
      | nil => rw [hc] at h2; cases h2
      | cons c r =>
        rw [hc] at h2
        obtain rfl : c = 45 := (List.cons.inj h2).1
        exact ⟨r, rfl⟩
    have sl : s.length = cs.length + 1 := by
      rw [len_tl]
      show s.cps.toList.length = _
      rw [e]
      rfl
    have ed : ((s.cps.toList.drop 1).take (s.length - 1)) = cs := by
      rw [e, sl]
      simp
    rw [ed] at g1 g2 hl
    have g1 : NumText.AllDigits cs := g1
    have hl : cs.length ≤ 13 := by simpa [Str.length] using hl
    refine ⟨_, intText_neg e g1 (fun z => g2 (by rw [z])) (by omega), ?_, by omega⟩
    have := val_lt _ cs rfl g1
    have := Nat.pow_le_pow_right (show 10 > 0 by decide) hl
    omega
  · rw [if_neg h] at g1 g2 hl
    refine ⟨_, intText_digits g1 g2 (by omega), ?_, by omega⟩
    have := val_lt _ (tl s) rfl g1
    rw [← len_tl] at this
    have := Nat.pow_le_pow_right (show 10 > 0 by decide) hl
    have e : NumText.digitsVal s.cps.toList = NumText.digitsVal (tl s) := rfl
    omega
theorem numL_head : ∀ n : Nat, 1 ≤ n → (numL n).head? ≠ some 48
  | n, h => by
    rcases Nat.lt_or_ge n 10 with z | z
    · rw [numL_lt z]
      intro e
      have := Option.some.inj e
      omega
    · rw [numL_step z]
      have ih := numL_head (n / 10) (by omega)
      cases hc : numL (n / 10) with
      | nil => exact absurd hc (numL_ne _)
      | cons c r => rw [hc] at ih; exact ih
termination_by n => n
/-- what the law's reading makes of a word -/
theorem law_word {s : Str} (h1 : 1 ≤ s.length) (h13 : s.length ≤ 13) (hd : ∀ c ∈ tl s, 48 ≤ c ∧ c ≤ 57) (h0 : (tl s).head? ≠ some 48) : ∃ i : Int, intText? s = some i ∧ 1 ≤ i ∧ i < 10000000000000 ∧ s = (toString i : Str) := by
  have ne : tl s ≠ [] := fun e => by rw [len_tl, e] at h1; exact absurd h1 (by decide)
  obtain ⟨a, b⟩ := numL_back _ (tl s) rfl ne hd h0
  have lt := val_lt _ (tl s) rfl hd
  rw [← len_tl] at lt
  have := Nat.pow_le_pow_right (show 10 > 0 by decide) h13
  have e13 : (10 : Nat) ^ 13 = 10000000000000 := by decide
  refine ⟨_, intText_digits hd ne (by omega), by have e : NumText.digitsVal s.cps.toList = NumText.digitsVal (tl s) := rfl; omega, by have e : NumText.digitsVal s.cps.toList = NumText.digitsVal (tl s) := rfl; omega, ?_⟩
  refine ext_tl ?_
  rw [tl_int (by omega)]
  unfold numI
  exact a.symm
/-- a right word is a run of digits that does not begin with nought -/
theorem right_word {s : Str} {n : Int} (h : LvOk n) (e : s = (toString n : Str)) : 1 ≤ s.length ∧ s.length ≤ 13 ∧ (∀ c ∈ tl s, 48 ≤ c ∧ c ≤ 57) ∧ (tl s).head? ≠ some 48 ∧ intText? s = some n := by
  have h1 := h.1
  have h2 := h.2
  have et : tl s = numI n := by rw [e, tl_int (by omega)]
  obtain ⟨f1, f2, f3, f4, f5, f6⟩ := num_facts (by omega) (by omega) et
  refine ⟨?_, f4, fun c hc => ?_, ?_, f5⟩
  · rw [len_tl, et]
    exact List.length_pos_iff.mpr (numL_ne _)
  · rw [et] at hc
    exact numL_digits _ c hc
  · rw [et]
    exact numL_head _ (by omega)
end Ml
namespace Ml
open PySem PySem.Spec PyProof.Rows L2
/-! ### written values: laid anew, at addresses that were free in H0 -/
mutual
inductive Fv (H0 H : Hp) : V → PyData → Prop
  | non : Fv H0 H .non .none
  | bl (b : Bool) : Fv H0 H (.bl b) (.bool b)
  | int (i : Int) : Fv H0 H (.int i) (.int i)
  | str (x : Str) : Fv H0 H (.str x) (.str x)
  | tup {a : Addr} {xs : List V} {ds : List PyData} : H a = some (.tup xs) → H0 a = none → FvAll H0 H xs ds → Fv H0 H (.ref a) (.tuple ds)
  | lst {a : Addr} {xs : List V} {ds : List PyData} : H a = some (.lst xs) → H0 a = none → FvAll H0 H xs ds → Fv H0 H (.ref a) (.list ds)
  | dct {a : Addr} : H a = some (.dK []) → H0 a = none → Fv H0 H (.ref a) (.dict [])
inductive FvAll (H0 H : Hp) : List V → List PyData → Prop
  | nil : FvAll H0 H [] []
  | cons {v : V} {vs : List V} {d : PyData} {ds : List PyData} : Fv H0 H v d → FvAll H0 H vs ds → FvAll H0 H (v :: vs) (d :: ds)
end
theorem none_of {H H' : Hp} {a : Addr} (e : Sm H H') (h : H' a = none) : H a = none := by
  cases z : H a with
  | none => rfl
  | some o => rw [e _ _ z] at h; cases h
/-- all that stands at addresses which were free in H0 stays -/
def Nw (H0 H H' : Hp) : Prop := ∀ a o, H0 a = none → H a = some o → H' a = some o
theorem Sm.nw {H0 H H' : Hp} (e : Sm H H') : Nw H0 H H' := fun a o _ h => e a o h
theorem Kp.nw {H0 H H' : Hp} {d c r : Addr} {n : Nat} (g : Dr H0 d c r n) (e : Kp d r H H') : Nw H0 H H' := fun a o h0 h => by
  obtain ⟨_, hd⟩ := g.d_lst
  obtain ⟨_, hr⟩ := g.r_lst
  exact e a o h (fun z => by rw [z, hd] at h0; cases h0) (fun z => by rw [z, hr] at h0; cases h0)
mutual
theorem Fv.nw {H0 H H' : Hp} (e : Nw H0 H H') : ∀ {d : PyData} {v : V}, Fv H0 H v d → Fv H0 H' v d
  | _, _, .non => .non
  | _, _, .bl b => .bl b
  | _, _, .int i => .int i
  | _, _, .str x => .str x
  | _, _, .tup h n g => .tup (e _ _ n h) n (FvAll.nw e g)
  | _, _, .lst h n g => .lst (e _ _ n h) n (FvAll.nw e g)
  | _, _, .dct h n => .dct (e _ _ n h) n
theorem FvAll.nw {H0 H H' : Hp} (e : Nw H0 H H') : ∀ {ds : List PyData} {vs : List V}, FvAll H0 H vs ds → FvAll H0 H' vs ds
  | _, _, .nil => .nil
  | _, _, .cons a b => .cons (Fv.nw e a) (FvAll.nw e b)
end
mutual
theorem Fv.from {H00 H0 H : Hp} (e : Sm H00 H0) : ∀ {d : PyData} {v : V}, Fv H0 H v d → Fv H00 H v d
  | _, _, .non => .non
  | _, _, .bl b => .bl b
  | _, _, .int i => .int i
  | _, _, .str x => .str x
  | _, _, .tup h n g => .tup h (none_of e n) (FvAll.from e g)
  | _, _, .lst h n g => .lst h (none_of e n) (FvAll.from e g)
  | _, _, .dct h n => .dct h (none_of e n)
theorem FvAll.from {H00 H0 H : Hp} (e : Sm H00 H0) : ∀ {ds : List PyData} {vs : List V}, FvAll H0 H vs ds → FvAll H00 H vs ds
  | _, _, .nil => .nil
  | _, _, .cons a b => .cons (Fv.from e a) (FvAll.from e b)
end
theorem FvAll.len {H0 H : Hp} : ∀ {ds : List PyData} {vs : List V}, FvAll H0 H vs ds → vs.length = ds.length
  | _, _, .nil => rfl
  | _, _, .cons _ b => by rw [List.length_cons, List.length_cons, b.len]
theorem FvAll.at {H0 H : Hp} : ∀ {ds : List PyData} {vs : List V}, FvAll H0 H vs ds → ∀ {i : Nat} {v : V}, vs[i]? = some v → ∃ d, ds[i]? = some d ∧ Fv H0 H v d
  | _, _, .nil, i, v, e => by simp at e
  | _, _, .cons a b, 0, v, e => by cases Option.some.inj e; exact ⟨_, rfl, a⟩
  | _, _, .cons a b, i + 1, v, e => FvAll.at b (i := i) (by simpa using e)
theorem FvAll.append {H0 H : Hp} : ∀ {ds es : List PyData} {vs us : List V}, FvAll H0 H vs ds → FvAll H0 H us es → FvAll H0 H (vs ++ us) (ds ++ es)
  | _, _, _, _, .nil, h => h
  | _, _, _, _, .cons a b, h => .cons a (FvAll.append b h)
/-! ### the readings of written values -/
def LeE (a b : TE) : Prop := ∀ σ H Q, b σ H Q → a σ H Q
def LeA (a b : TA) : Prop := ∀ σ H Q, b σ H Q → a σ H Q
end Ml
namespace Ml
open PySem PySem.Spec PyProof.Rows L2
/-! ### written values, part by part: only the value is in the reading -/
section
variable {X : Cx} {e a b : Expr} {es : List Expr} {te te' : TE} {ta ta' : TA} {d : PyData} {ds : List PyData} {pos : Pos}
theorem pe_le (h : PE X e te) (l : LeE te te') : PE X e te' := ⟨fun pins s σ H Q I q => h.run pins s σ H Q I (l σ H Q q)⟩
theorem pa_le (h : PA X es ta) (l : LeA ta ta') : PA X es ta' := ⟨fun p pins s σ H Q I q => h.run p pins s σ H Q I (l σ H Q q)⟩
theorem leE_refl : LeE te te := fun _ _ _ h => h
theorem leA_refl : LeA ta ta := fun _ _ _ h => h
end
end Ml
namespace Ml
open PySem PySem.Spec PyProof.Rows L2
/-! ### a tuple turned round; a tuple of data that has one -/
theorem turn_bounds (n : Nat) : Builtin.Slice.sliceAdjust none none (-1) (n : Int) = ((n : Int) - 1, -1) := by
  unfold Builtin.Slice.sliceAdjust
  simp only [show ((-1 : Int) < 0) from by decide, if_true]
theorem turn_places (n : Nat) : Builtin.Slice.slicePlaces ((n : Int) - 1) (-1) (-1) = n := by
  unfold Builtin.Slice.slicePlaces
  rw [if_neg (by decide)]
  by_cases h : (n : Int) - 1 > -1
  · rw [if_pos h, show (-(-1 : Int)) = 1 from rfl, Int.ediv_one]
    omega
  · rw [if_neg h]
    omega
theorem filt_map {α β : Type} {f : α → Option β} {g : α → β} : ∀ {l : List α}, (∀ x ∈ l, f x = some (g x)) → l.filterMap f = l.map g
  | [], _ => rfl
  | a :: l, h => by
    rw [List.filterMap_cons, h a (List.mem_cons_self ..), List.map_cons, filt_map fun x hx => h x (List.mem_cons_of_mem _ hx)]
theorem turn_pick (xs : Array Value) : ((List.range xs.size).filterMap fun (m : Nat) => xs[(((xs.size : Int) - 1) + (m : Int) * (-1)).toNat]?).toArray = xs.toList.reverse.toArray := by
  congr 1
  refine List.ext_getElem? fun i => ?_
  have e : (List.range xs.size).filterMap (fun (m : Nat) => xs[(((xs.size : Int) - 1) + (m : Int) * (-1)).toNat]?) = (List.range xs.size).map (fun m => xs.toList.getD (xs.size - 1 - m) .none) := by
    refine filt_map fun m hm => ?_
    have hm := List.mem_range.mp hm
    have z : (((xs.size : Int) - 1) + (m : Int) * (-1)).toNat = xs.size - 1 - m := by omega
    rw [z]
    rw [List.getD_eq_getElem?_getD, Array.getElem?_toList, Array.getElem?_eq_getElem (by omega)]
    rfl
  rw [e, List.getElem?_map]
  by_cases hi : i < xs.size
  · rw [List.getElem?_range hi, List.getElem?_reverse (by rw [Array.length_toList]; exact hi), Array.length_toList]
    show some (xs.toList.getD (xs.size - 1 - i) .none) = _
    rw [List.getD_eq_getElem?_getD, List.getElem?_eq_getElem (by rw [Array.length_toList]; omega)]
    rfl
  · rw [List.getElem?_eq_none (by rw [List.length_range]; omega), List.getElem?_eq_none (by rw [List.length_reverse, Array.length_toList]; omega)]
    rfl
section
variable {prog : Program} {w : World} {A : Around} {E : Value → Shared → Prop} {s : Shared}
theorem cut_turned {B : Around} {F : Value → Shared → Prop} {sl : Addr} {vl vu vs : Value} {n : Nat} {Q : Int × Int × Nat → Shared → Prop} (hs : s.heap.IsSliceOf sl vl vu vs) (pl : IsPart vl none) (pu : IsPart vu none) (ps : IsPart vs (some (-1))) (h : Q ((n : Int) - 1, -1, n) s) :
    wpAny (model prog w) B (Builtin.Slice.sliceApplied (.ref sl) (pure (n : Int))) Q F s := by
  obtain ⟨os, hos, hcs, hds⟩ := id hs
  unfold Builtin.Slice.sliceApplied Builtin.Slice.sliceFields
  refine wpAny_bind (wpAny_bind (wpAny_field hos hds (x := vl) rfl (wpAny_bind (wpAny_field hos hds (x := vu) rfl (wpAny_bind (wpAny_field hos hds (x := vs) rfl (wpAny_pure ?_)))))))
  refine wpAny_bind (HT.slicePart_ ps ?_)
  show wpAny _ _ (if ((-1 : Int) == 0) = true then _ else _) _ _ s
  rw [if_neg (by decide)]
  refine wpAny_bind (HT.slicePart_ pl (wpAny_bind (HT.slicePart_ pu (wpAny_bind (wpAny_pure ?_)))))
  show wpAny _ _ (match Builtin.Slice.sliceAdjust none none (-1) (n : Int) with | (lo, hi) => pure (lo, (-1 : Int), Builtin.Slice.slicePlaces lo hi (-1))) _ _ s
  rw [turn_bounds]
  show wpAny _ _ (pure ((n : Int) - 1, (-1 : Int), Builtin.Slice.slicePlaces ((n : Int) - 1) (-1) (-1))) _ _ s
  rw [turn_places]
  exact wpAny_pure h
theorem turned {t sl : Addr} {items : Array Value} {vl vu vs : Value} {Q : Value → Shared → Prop} (ht : PyProof.Rows.IsTup s.heap t items) (hs : s.heap.IsSliceOf sl vl vu vs) (pl : IsPart vl none) (pu : IsPart vu none) (ps : IsPart vs (some (-1)))
    (h : Q (.ref s.heap.objs.size) { s with heap := s.heap.push { cls := .type "tuple", data := .seq items.toList.reverse.toArray } }) (hsz : items.size ≤ sizeLine) : wpAny (model prog w) A (getItem (.ref t) (.ref sl)) Q E s := by
  have fits : sizeOk (.seq items.toList.reverse.toArray) := by
    show items.toList.reverse.toArray.size ≤ sizeLine
    rw [List.size_toArray, List.length_reverse, Array.length_toList]
    exact hsz
  obtain ⟨os, hos, hcs, hds⟩ := id hs
  have isS : s.TypeIs (.ref sl) "slice" := ⟨os, hos, hcs⟩
  have isT : s.TypeIs (.ref t) "tuple" := ht.typeIs
  unfold getItem
  try with_reducible refine wpAny_holding ?_
  first | refine wpAny_bind (wpAny_pure ?_) | skip
  refine wpAny_bind (wpAny_sequenceKey isT (by decide) ?_)
  refine wpAny_bind (wpAny_callSpecial?_slot (name := Str.ofString "__getitem__") isT PyProof.Rows.slot_tuple_getitem (wpAny_call_entry PyProof.Rows.slot_tuple_getitem isT entry_tuple_getitem ?_ (args_tuple_getitem _ _)))
  show wpAny _ _ (Builtin.Tuple.tupleItemsOf (.ref t) >>= _) _ _ s
  refine wpAny_bind (PyProof.Rows.tupleItemsOf_ ht ?_)
  refine wpAny_bind (wpAny_typeOf isS ?_)
  rw [if_pos (by decide)]
  refine wpAny_bind (cut_turned hs pl pu ps ?_)
  show wpAny _ _ (if (((items.size : Int) - 1 == 0) && ((-1 : Int) == 1) && (items.size == items.size)) = true then _ else _) _ _ s
  rw [if_neg (by simp), turn_pick]
  first
    | exact wpAny_bind (m := Builtin.Tuple.tupleExact _) (wpAny_newObj_type (wpAny_pure ⟨_, rfl, wpAny_pure h⟩) fits)
    | exact wpAny_bind (m := Builtin.Tuple.tupleExact _) (wpAny_newObj_type (wpAny_bind (wpAny_pure (wpAny_pure ⟨_, rfl, wpAny_pure h⟩))) fits)
    | exact wpAny_bind (wpAny_bind (m := Builtin.Tuple.tupleExact _) (wpAny_newObj_type (wpAny_pure (wpAny_pure ⟨_, rfl, wpAny_pure h⟩)) fits))
    | exact wpAny_bind (wpAny_bind (m := Builtin.Tuple.tupleExact _) (wpAny_newObj_type (wpAny_pure ⟨_, rfl, wpAny_pure h⟩) fits))
end
end Ml
namespace Ml
open PySem PySem.Spec PyProof.Rows L2
/-! ### new lists lie past the interpreter's own cells -/
theorem get_lt {h : Heap} {a : Addr} {o : Obj} (e : h.get? a = some o) : a < h.objs.size := by
  unfold Heap.get? at e
  by_cases z : a < h.objs.size
  · exact z
  · rw [Array.getElem?_eq_none (Nat.le_of_not_lt z)] at e
    cases e
theorem inv_past {X : Cx} {pins : List (Addr × Obj)} {σ : L2.St} {H : Hp} {s : Shared} (I : L2.Inv X pins σ H s) : s.heap.objs.size ≠ sysModules := by
  obtain ⟨o, es, ep, hg, _⟩ := I.ok.mod.glob
  obtain ⟨o', ho'⟩ := I.base.there _ _ (I.ok.bs _ _ hg).1 (I.ok.noex _ _ hg)
  have : mainGlobals < s.heap.objs.size := get_lt ho'
  intro z
  rw [z] at this
  exact absurd this (by decide)
def tLstS (ta : TA) : TE := fun σ H Q => ta σ H fun xs H1 => xs.length ≤ sizeLine ∧ ∀ p, H1 p = none → p ≠ sysModules → Q (.ref p) (upd H1 p (.lst xs))
theorem pe_lstS {X : Cx} {es : List Expr} {t : TA} {pos : Pos} (h : PA X es t) : PE X (.List es pos) (tLstS t) := by
  refine ⟨fun pins s σ H Q I hq => wpAny_List_spliced (thn (h.run pos pins s σ H _ I hq) fun us s1 ⟨xs, H1, I1, r, z, q⟩ => ⟨by rw [← r.length]; exact z, ?_⟩)⟩
  exact ⟨.ref s1.heap.objs.size, upd H1 s1.heap.objs.size (.lst xs), I1.laid (fun b u e => Heap.get?_push_of_some _ e) (Nat.le_refl _) ⟨z, us, 0, r, Heap.get?_push_size s1.heap rfl⟩, rfl, q _ (I1.hok.fresh (Nat.le_refl _)) (inv_past I1)⟩
/-! ### values of any kind -/
mutual
inductive Da (K : PySem.W.Frag) (ok : Addr → Prop) (H : Hp) : V → PyData → Prop
  | non : Da K ok H .non .none
  | bl (b : Bool) : Da K ok H (.bl b) (.bool b)
  | int (i : Int) : Da K ok H (.int i) (.int i)
  | str (x : Str) : Da K ok H (.str x) (.str x)
  | lst {a : Addr} {xs : List V} {ds : List PyData} : H a = some (.lst xs) → ok a → a ≠ sysModules → DaAll K ok H xs ds → Da K ok H (.ref a) (.list ds)
  | tup {a : Addr} {xs : List V} {ds : List PyData} : SqT K H a xs → DaAll K ok H xs ds → Da K ok H (.ref a) (.tuple ds)
  | dct {a : Addr} : H a = some (.dK []) → ok a → Da K ok H (.ref a) (.dict [])
inductive DaAll (K : PySem.W.Frag) (ok : Addr → Prop) (H : Hp) : List V → List PyData → Prop
  | nil : DaAll K ok H [] []
  | cons {v : V} {vs : List V} {d : PyData} {ds : List PyData} : Da K ok H v d → DaAll K ok H vs ds → DaAll K ok H (v :: vs) (d :: ds)
end
section
variable {K : PySem.W.Frag} {ok : Addr → Prop} {H H' : Hp}
mutual
theorem Da.to (e1 : ∀ a o, H a = some o → ok a → H' a = some o) (e2 : ∀ a xs, SqT K H a xs → SqT K H' a xs) : ∀ {d : PyData} {v : V}, Da K ok H v d → Da K ok H' v d
  | _, _, .non => .non
  | _, _, .bl b => .bl b
  | _, _, .int i => .int i
  | _, _, .str x => .str x
  | _, _, .lst h o n g => .lst (e1 _ _ h o) o n (DaAll.to e1 e2 g)
  | _, _, .tup h g => .tup (e2 _ _ h) (DaAll.to e1 e2 g)
  | _, _, .dct h o => .dct (e1 _ _ h o) o
theorem DaAll.to (e1 : ∀ a o, H a = some o → ok a → H' a = some o) (e2 : ∀ a xs, SqT K H a xs → SqT K H' a xs) : ∀ {ds : List PyData} {vs : List V}, DaAll K ok H vs ds → DaAll K ok H' vs ds
  | _, _, .nil => .nil
  | _, _, .cons a b => .cons (Da.to e1 e2 a) (DaAll.to e1 e2 b)
end
theorem Da.same {d : PyData} {v : V} (h : Da K ok H v d) (e : Sm H H') : Da K ok H' v d := h.to (fun a o h _ => e a o h) fun a xs h => e.sqT h
theorem DaAll.same {ds : List PyData} {vs : List V} (h : DaAll K ok H vs ds) (e : Sm H H') : DaAll K ok H' vs ds := h.to (fun a o h _ => e a o h) fun a xs h => e.sqT h
theorem Da.kp {d c r : Addr} {n : Nat} {x : PyData} {v : V} (h : Da K ok H v x) (hok : ∀ a, ok a → a ≠ d ∧ a ≠ r) (D : Dr H d c r n) (e : Kp d r H H') : Da K ok H' v x :=
  h.to (fun a o h o' => e a o h (hok a o').1 (hok a o').2) fun a xs h => D.kpT e h
theorem DaAll.kp {d c r : Addr} {n : Nat} {ds : List PyData} {vs : List V} (h : DaAll K ok H vs ds) (hok : ∀ a, ok a → a ≠ d ∧ a ≠ r) (D : Dr H d c r n) (e : Kp d r H H') : DaAll K ok H' vs ds :=
  h.to (fun a o h o' => e a o h (hok a o').1 (hok a o').2) fun a xs h => D.kpT e h
theorem DaAll.len : ∀ {ds : List PyData} {vs : List V}, DaAll K ok H vs ds → vs.length = ds.length
  | _, _, .nil => rfl
  | _, _, .cons _ b => by rw [List.length_cons, List.length_cons, b.len]
theorem DaAll.at : ∀ {ds : List PyData} {vs : List V}, DaAll K ok H vs ds → ∀ {i : Nat} {v : V}, vs[i]? = some v → ∃ d, ds[i]? = some d ∧ Da K ok H v d
  | _, _, .nil, i, v, e => by simp at e
  | _, _, .cons a b, 0, v, e => by cases Option.some.inj e; exact ⟨_, rfl, a⟩
  | _, _, .cons a b, i + 1, v, e => DaAll.at b (i := i) (by simpa using e)
theorem DaAll.append : ∀ {ds es : List PyData} {vs us : List V}, DaAll K ok H vs ds → DaAll K ok H us es → DaAll K ok H (vs ++ us) (ds ++ es)
  | _, _, _, _, .nil, h => h
  | _, _, _, _, .cons a b, h => .cons a (DaAll.append b h)
theorem DaAll.take : ∀ (k : Nat) {ds : List PyData} {vs : List V}, DaAll K ok H vs ds → DaAll K ok H (vs.take k) (ds.take k)
  | 0, _, _, _ => by rw [List.take_zero, List.take_zero]; exact .nil
  | k + 1, _, _, .nil => .nil
  | k + 1, _, _, .cons a b => .cons a (DaAll.take k b)
theorem DaAll.drop : ∀ (k : Nat) {ds : List PyData} {vs : List V}, DaAll K ok H vs ds → DaAll K ok H (vs.drop k) (ds.drop k)
  | 0, _, _, h => h
  | k + 1, _, _, .nil => .nil
  | k + 1, _, _, .cons a b => DaAll.drop k b
theorem DaAll.rev : ∀ {ds : List PyData} {vs : List V}, DaAll K ok H vs ds → DaAll K ok H vs.reverse ds.reverse
  | _, _, .nil => .nil
  | _, _, .cons a b => by
    rw [List.reverse_cons, List.reverse_cons]
    exact b.rev.append (.cons a .nil)
theorem DaAll.one {v : V} {d : PyData} (h : Da K ok H v d) : DaAll K ok H [v] [d] := .cons h .nil
theorem da_ints : ∀ ns : List Int, DaAll K ok H (ns.map V.int) (ns.map PyData.int)
  | [] => .nil
  | n :: ns => .cons (.int n) (da_ints ns)
theorem IT.da {v : V} {ns : List Int} (h : IT K H v ns) : Da K ok H v (rowD ns) := by
  obtain ⟨p, rfl, hs⟩ := h
  exact .tup hs (da_ints ns)
theorem rows_da : ∀ {vs : List V} {t : List (List Int)}, Rows K H vs t → DaAll K ok H vs (t.map rowD)
  | [], [], _ => .nil
  | [], _ :: _, h => by have := h.1; simp at this
  | _ :: _, [], h => by have := h.1; simp at this
  | v :: vs, ns :: t, h => by
    refine .cons (h.2 0 v ns rfl rfl).da (rows_da (vs := vs) (t := t) ⟨by have := h.1; simpa using this, fun i u ms a b => h.2 (i + 1) u ms (by simpa using a) (by simpa using b)⟩)
theorem TT.da {v : V} {t : List (List Int)} (h : TT K H v t) : Da K ok H v (tabD t) := by
  obtain ⟨p, vs, rfl, hs, hR⟩ := h
  exact .tup hs (rows_da hR)
theorem Da.ty {d : PyData} {v : V} (h : Da K ok H v d) : TyX K H v (.type (tyN d)) := by
  cases h with
  | non => exact .base .non
  | bl b => exact .base (.bl b)
  | int i => exact .base (.int i)
  | str x => exact .base (.str x)
  | lst h _ _ _ => exact .base (.lst h)
  | tup h _ => exact ty_tup h
  | dct h _ => exact .base (.dK h)
theorem kit_int : ∀ d : PyData, kitB (tyN d) "int" = some (match d with | .int _ => true | .bool _ => true | _ => false)
  | .none => (by decide +kernel : kitB "NoneType" "int" = some false)
  | .bool _ => (by decide +kernel : kitB "bool" "int" = some true)
  | .int _ => (by decide +kernel : kitB "int" "int" = some true)
  | .str _ => (by decide +kernel : kitB "str" "int" = some false)
  | .list _ => (by decide +kernel : kitB "list" "int" = some false)
  | .tuple _ => (by decide +kernel : kitB "tuple" "int" = some false)
  | .dict _ => (by decide +kernel : kitB "dict" "int" = some false)
theorem kit_bool : ∀ d : PyData, kitB (tyN d) "bool" = some (match d with | .bool _ => true | _ => false)
  | .none => (by decide +kernel : kitB "NoneType" "bool" = some false)
  | .bool _ => (by decide +kernel : kitB "bool" "bool" = some true)
  | .int _ => (by decide +kernel : kitB "int" "bool" = some false)
  | .str _ => (by decide +kernel : kitB "str" "bool" = some false)
  | .list _ => (by decide +kernel : kitB "list" "bool" = some false)
  | .tuple _ => (by decide +kernel : kitB "tuple" "bool" = some false)
  | .dict _ => (by decide +kernel : kitB "dict" "bool" = some false)
end
/-! ### their texts -/
mutual
theorem Da.reads {X : Cx} {pins : List (Addr × Obj)} {σ : L2.St} {H : Hp} {s : Shared} {ok : Addr → Prop} (I : L2.Inv X pins σ H s) : ∀ {d : PyData} {v : V}, Da X.K ok H v d → ∀ {u : Value}, RelV v u → ∃ as, Reads s.heap u d as ∧ sysModules ∉ as
  | _, _, .non, u, r => by cases r; exact ⟨_, .none, by simp⟩
  | _, _, .bl b, u, r => by cases r; exact ⟨_, .bool b, by simp⟩
  | _, _, .int i, u, r => by obtain ⟨t, rfl⟩ := r; exact ⟨_, .int i t, by simp⟩
  | _, _, .str x, u, r => by obtain ⟨t, rfl⟩ := r; exact ⟨_, .str x t, by simp⟩
  | _, _, .lst (a := a) h o n g, u, r => by
    cases r
    obtain ⟨_, its, m, r', e⟩ := I.hok _ _ h
    obtain ⟨as, ra, na⟩ := DaAll.reads I g r'
    exact ⟨a :: as, .list e rfl rfl (by simpa using ra), fun z => by rcases List.mem_cons.mp z with z | z; exact n z.symm; exact na z⟩
  | _, _, .tup h g, u, r => by
    cases r
    obtain ⟨its, r', ⟨o, ho, hc, m, hd⟩, _⟩ := I.tuple h
    obtain ⟨as, ra, na⟩ := DaAll.reads I g r'
    exact ⟨as, .tuple ho hc hd (by simpa using ra), na⟩
  | _, _, .dct (a := a) h _, u, r => by
    cases r
    obtain ⟨_, hn, vs, kv, o, es, ep, ho, hx, hd, hk, hp, _⟩ := I.hok _ _ h
    cases kv
    have he : es.toList = [] := by cases z : es.toList with | nil => rfl | cons x l => rw [z] at hp; cases hp
    refine ⟨a :: ([] ++ []), .dict (kvs := []) ho hx.1 hd (by rw [he]; exact .nil) (by rw [he]; exact .nil), fun z => ?_⟩
    rcases List.mem_cons.mp z with z | z
    · rw [← z] at hn
      simp at hn
    · simp at z
theorem DaAll.reads {X : Cx} {pins : List (Addr × Obj)} {σ : L2.St} {H : Hp} {s : Shared} {ok : Addr → Prop} (I : L2.Inv X pins σ H s) : ∀ {ds : List PyData} {vs : List V}, DaAll X.K ok H vs ds → ∀ {us : List Value}, Vals vs us → ∃ as, ReadsAll s.heap us ds as ∧ sysModules ∉ as
  | _, _, .nil, us, r => by cases r; exact ⟨_, .nil, by simp⟩
  | _, _, .cons a b, us, r => by
    cases r with
    | cons r1 r2 =>
      obtain ⟨as, ra, na⟩ := Da.reads I a r1
      obtain ⟨bs, rb, nb⟩ := DaAll.reads I b r2
      exact ⟨as ++ bs, .cons ra rb, fun z => by rcases List.mem_append.mp z with z | z; exact na z; exact nb z⟩
end
end Ml
namespace Ml
open PySem PySem.Spec PyProof.Rows L2
/-! ### repr of a value of any kind -/
def rReprA (K : PySem.W.Frag) (ok : Addr → Prop) : List V → Hp → VK → Prop := fun vs H Q => ∃ (v : V) (d : PyData), vs = [v] ∧ Da K ok H v d ∧ d.showable = true ∧ d.depth ≤ 30 ∧ d.shown.length ≤ sizeLine ∧ Q (.str d.shown) H
theorem cr_reprA {X : Cx} {ok : Addr → Prop} {k : Nat} (hg : X.A.guards = some []) (hr : Room k X.A) : CallR X (.builtin "repr") (rReprA X.K ok) := by
  intro pins s σ H xs us Q I rxs h
  obtain ⟨v, d, rfl, hd, sh, dp, sz, q⟩ := h
  obtain ⟨u, rfl, ru⟩ := rxs.one
  have hu := hr.units
  have hrd := hd.reads I ru
  have byref : ∀ a, v = .ref a → wpAny (model X.prog X.w) X.A (call (.builtin "repr") [u]) (EP X pins σ Q) X.xe s := fun a e => by
    subst e
    cases ru
    obtain ⟨as, rd, na⟩ := hrd
    exact repr_of_reads' rd sh (fun _ => na) hg (by omega) (fun _ _ e => e) (fun g t tk keep => ⟨.str d.shown, H, I.kept (t' := tk) keep, ⟨t, rfl⟩, q⟩) sz
  cases hd with
  | non => cases ru; exact PySem.P.repr_of_none ⟨.str "None", H, I.tok _, ⟨_, rfl⟩, q⟩
  | bl b =>
    cases ru
    refine PySem.P.repr_of_bool ⟨.str (if b then "True" else "False"), H, I.tok _, ⟨_, rfl⟩, ?_⟩
    cases b <;> exact q
  | int i =>
    obtain ⟨t, rfl⟩ := ru
    refine PySem.P.repr_of_int (by simpa [PyData.showable] using sh) ⟨.str (Str.ofString (toString i)), H, I.tok _, ⟨_, rfl⟩, q⟩
  | str x =>
    obtain ⟨t, rfl⟩ := ru
    have e : PyData.shown (.str x) = reprText x := by simp [PyData.shown]
    rw [e] at q sz
    exact PySem.P.repr_of_str ⟨.str (reprText x), H, I.tok _, ⟨_, rfl⟩, q⟩ sz
  | lst h o n g => exact byref _ rfl
  | tup h g => exact byref _ rfl
  | dct h o => exact byref _ rfl
/-! ### how large values are -/
mutual
def wt : PyData → Nat
  | .none => 4
  | .bool _ => 5
  | .int _ => 45
  | .str x => (reprText x).length
  | .list ds => wtAll ds + 3
  | .tuple ds => wtAll ds + 3
  | .dict _ => 5
def wtAll : List PyData → Nat
  | [] => 0
  | d :: ds => wt d + 2 + wtAll ds
end
/-- ints up to B, at most n deep -/
def Sz (B : Nat) : Nat → PyData → Prop
  | _, .none => True
  | _, .bool _ => True
  | _, .int i => i.natAbs ≤ B
  | _, .str x => True
  | n + 1, .list ds => ∀ d ∈ ds, Sz B n d
  | n + 1, .tuple ds => ∀ d ∈ ds, Sz B n d
  | n + 1, .dict [] => True
  | _, _ => False
theorem Sz.mono {B C : Nat} (hB : B ≤ C) : ∀ {n m : Nat} {d : PyData}, n ≤ m → Sz B n d → Sz C m d
  | n, m, .none, _, _ => by cases m <;> exact trivial
  | n, m, .bool _, _, _ => by cases m <;> exact trivial
  | n, m, .int i, _, h => by
    have h' : i.natAbs ≤ B := by cases n <;> exact h
    have : i.natAbs ≤ C := Nat.le_trans h' hB
    cases m <;> exact this
  | n, m, .str x, _, h => by cases m <;> exact trivial
  | 0, m, .list ds, _, h => h.elim
  | 0, m, .tuple ds, _, h => h.elim
  | 0, m, .dict [], _, h => h.elim
  | 0, m, .dict (_ :: _), _, h => h.elim
  | n + 1, m + 1, .list ds, hm, h => fun d hd => Sz.mono hB (by omega) (h d hd)
  | n + 1, m + 1, .tuple ds, hm, h => fun d hd => Sz.mono hB (by omega) (h d hd)
  | n + 1, m + 1, .dict [], _, h => trivial
  | n + 1, m + 1, .dict (_ :: _), _, h => h.elim
  | n + 1, 0, _, hm, _ => absurd hm (by omega)
theorem Sz.int {B : Nat} {n : Nat} {i : Int} (h : i.natAbs ≤ B) : Sz B n (.int i) := by cases n <;> exact h
theorem Sz.int' {B : Nat} {n : Nat} {i : Int} (h : Sz B n (.int i)) : i.natAbs ≤ B := by cases n <;> exact h
theorem Sz.bool {B : Nat} {n : Nat} (b : Bool) : Sz B n (.bool b) := by cases n <;> exact trivial
theorem Sz.none {B : Nat} {n : Nat} : Sz B n .none := by cases n <;> exact trivial
theorem Sz.str {B : Nat} {n : Nat} {x : Str} : Sz B n (.str x) := by cases n <;> exact trivial
theorem sz_depthAll {B n : Nat} (ih : ∀ d, Sz B n d → d.depth ≤ n) : ∀ ds : List PyData, (∀ d ∈ ds, Sz B n d) → PyData.depthAll ds ≤ n
  | [], _ => by simp [PyData.depthAll]
  | d :: ds, h => by
    have h1 := ih d (h d List.mem_cons_self)
    have h2 := sz_depthAll ih ds fun e he => h e (List.mem_cons_of_mem _ he)
    simp only [PyData.depthAll]
    omega
theorem Sz.depth {B : Nat} : ∀ {n : Nat} (d : PyData), Sz B n d → d.depth ≤ n
  | n, .none, _ => by simp [PyData.depth]
  | n, .bool _, _ => by simp [PyData.depth]
  | n, .int _, _ => by simp [PyData.depth]
  | n, .str _, _ => by simp [PyData.depth]
  | 0, .list ds, h => h.elim
  | 0, .tuple ds, h => h.elim
  | 0, .dict [], h => h.elim
  | 0, .dict (_ :: _), h => h.elim
  | n + 1, .list ds, h => by
    have := sz_depthAll (fun d => Sz.depth d) ds h
    simp only [PyData.depth]
    omega
  | n + 1, .tuple ds, h => by
    have := sz_depthAll (fun d => Sz.depth d) ds h
    simp only [PyData.depth]
    omega
  | n + 1, .dict [], _ => Nat.le_trans (by decide +kernel : PyData.depth (.dict []) ≤ 1) (by omega)
  | n + 1, .dict (_ :: _), h => h.elim
theorem log_small {i : Int} (h : i.natAbs < 10 ^ 40) : i.natAbs.log2 < 1920 := by
  have : i.natAbs < 2 ^ 150 := Nat.lt_of_lt_of_le h (by decide)
  exact Nat.lt_trans (PySem.Flt.log2_lt_of (by decide) this) (by decide)
theorem sz_showAll {B n : Nat} (ih : ∀ d, Sz B n d → d.showable = true) : ∀ ds : List PyData, (∀ d ∈ ds, Sz B n d) → PyData.showableAll ds = true
  | [], _ => by simp [PyData.showableAll]
  | d :: ds, h => by
    have h1 := ih d (h d List.mem_cons_self)
    have h2 := sz_showAll ih ds fun e he => h e (List.mem_cons_of_mem _ he)
    simp [PyData.showableAll, h1, h2]
theorem Sz.show {B : Nat} (hB : B < 10 ^ 40) : ∀ {n : Nat} (d : PyData), Sz B n d → d.showable = true
  | n, .none, _ => by simp [PyData.showable]
  | n, .bool _, _ => by simp [PyData.showable]
  | n, .int i, h => by
    have := log_small (i := i) (Nat.lt_of_le_of_lt h.int' hB)
    simp [PyData.showable, this]
  | n, .str _, _ => by simp [PyData.showable]
  | 0, .list ds, h => h.elim
  | 0, .tuple ds, h => h.elim
  | 0, .dict [], h => h.elim
  | 0, .dict (_ :: _), h => h.elim
  | n + 1, .list ds, h => by
    have := sz_showAll (fun d => Sz.show hB d) ds h
    simp only [PyData.showable]
    exact this
  | n + 1, .tuple ds, h => by
    have := sz_showAll (fun d => Sz.show hB d) ds h
    simp only [PyData.showable]
    exact this
  | n + 1, .dict [], _ => (by decide +kernel : PyData.showable (.dict []) = true)
  | n + 1, .dict (_ :: _), h => h.elim
theorem sz_textAll {B n : Nat} (ih : ∀ d, Sz B n d → d.shown.length ≤ wt d) : ∀ ds : List PyData, (∀ d ∈ ds, Sz B n d) → ((PyData.shownAll ds).map fun x => x.length).sum + 2 * (PyData.shownAll ds).length ≤ wtAll ds
  | [], _ => by simp [PyData.shownAll, wtAll]
  | d :: ds, h => by
    have h1 := ih d (h d List.mem_cons_self)
    have h2 := sz_textAll ih ds fun e he => h e (List.mem_cons_of_mem _ he)
    simp only [PyData.shownAll, wtAll, List.map_cons, List.sum_cons, List.length_cons]
    omega
theorem Sz.text {B : Nat} (hB : B < 10 ^ 40) : ∀ {n : Nat} (d : PyData), Sz B n d → d.shown.length ≤ wt d
  | n, .none, _ => (by decide +kernel : (PyData.shown .none).length ≤ 4)
  | n, .bool true, _ => (by decide +kernel : (PyData.shown (.bool true)).length ≤ 5)
  | n, .bool false, _ => (by decide +kernel : (PyData.shown (.bool false)).length ≤ 5)
  | n, .int i, h => by
    have e := int_text_length_le10 (k := 40) (by decide) (Nat.lt_of_le_of_lt h.int' hB)
    show (Str.ofString (toString i)).length ≤ 45
    rw [PySem.ofString_length]
    omega
  | n, .str x, _ => by simp [PyData.shown, wt]
  | 0, .list ds, h => h.elim
  | 0, .tuple ds, h => h.elim
  | 0, .dict [], h => h.elim
  | 0, .dict (_ :: _), h => h.elim
  | n + 1, .list ds, h => by
    have e := listText_len_le (PyData.shownAll ds)
    have := sz_textAll (fun d => Sz.text hB d) ds h
    show (listText (PyData.shownAll ds)).length ≤ _
    simp only [wt]
    omega
  | n + 1, .tuple ds, h => by
    have e := tupleText_len_le (PyData.shownAll ds)
    have := sz_textAll (fun d => Sz.text hB d) ds h
    show (tupleText (PyData.shownAll ds)).length ≤ _
    simp only [wt]
    omega
  | n + 1, .dict [], _ => (by decide +kernel : (PyData.shown (.dict [])).length ≤ 5)
  | n + 1, .dict (_ :: _), h => h.elim
/-! ### a tuple that is not empty -/
end Ml
namespace Ml
open PySem PySem.Spec PyProof.Rows L2
/-! ### written values: laid anew, at addresses that were free in H0 -/
mutual
inductive Fw (H0 H : Hp) : V → PyData → Prop
  | non : Fw H0 H .non .none
  | bl (b : Bool) : Fw H0 H (.bl b) (.bool b)
  | int (i : Int) : Fw H0 H (.int i) (.int i)
  | str (x : Str) : Fw H0 H (.str x) (.str x)
  | tup {a : Addr} {xs : List V} {ds : List PyData} : H a = some (.tup xs) → H0 a = none → FwAll H0 H xs ds → Fw H0 H (.ref a) (.tuple ds)
  | lst {a : Addr} {xs : List V} {ds : List PyData} : H a = some (.lst xs) → H0 a = none → a ≠ sysModules → FwAll H0 H xs ds → Fw H0 H (.ref a) (.list ds)
  | dct {a : Addr} : H a = some (.dK []) → H0 a = none → Fw H0 H (.ref a) (.dict [])
inductive FwAll (H0 H : Hp) : List V → List PyData → Prop
  | nil : FwAll H0 H [] []
  | cons {v : V} {vs : List V} {d : PyData} {ds : List PyData} : Fw H0 H v d → FwAll H0 H vs ds → FwAll H0 H (v :: vs) (d :: ds)
end
mutual
theorem Fw.nw {H0 H H' : Hp} (e : Nw H0 H H') : ∀ {d : PyData} {v : V}, Fw H0 H v d → Fw H0 H' v d
  | _, _, .non => .non
  | _, _, .bl b => .bl b
  | _, _, .int i => .int i
  | _, _, .str x => .str x
  | _, _, .tup h n g => .tup (e _ _ n h) n (FwAll.nw e g)
  | _, _, .lst h n m g => .lst (e _ _ n h) n m (FwAll.nw e g)
  | _, _, .dct h n => .dct (e _ _ n h) n
theorem FwAll.nw {H0 H H' : Hp} (e : Nw H0 H H') : ∀ {ds : List PyData} {vs : List V}, FwAll H0 H vs ds → FwAll H0 H' vs ds
  | _, _, .nil => .nil
  | _, _, .cons a b => .cons (Fw.nw e a) (FwAll.nw e b)
end
mutual
theorem Fw.from {H00 H0 H : Hp} (e : Sm H00 H0) : ∀ {d : PyData} {v : V}, Fw H0 H v d → Fw H00 H v d
  | _, _, .non => .non
  | _, _, .bl b => .bl b
  | _, _, .int i => .int i
  | _, _, .str x => .str x
  | _, _, .tup h n g => .tup h (none_of e n) (FwAll.from e g)
  | _, _, .lst h n m g => .lst h (none_of e n) m (FwAll.from e g)
  | _, _, .dct h n => .dct h (none_of e n)
theorem FwAll.from {H00 H0 H : Hp} (e : Sm H00 H0) : ∀ {ds : List PyData} {vs : List V}, FwAll H0 H vs ds → FwAll H00 H vs ds
  | _, _, .nil => .nil
  | _, _, .cons a b => .cons (Fw.from e a) (FwAll.from e b)
end
theorem FwAll.len {H0 H : Hp} : ∀ {ds : List PyData} {vs : List V}, FwAll H0 H vs ds → vs.length = ds.length
  | _, _, .nil => rfl
  | _, _, .cons _ b => by rw [List.length_cons, List.length_cons, b.len]
theorem FwAll.at {H0 H : Hp} : ∀ {ds : List PyData} {vs : List V}, FwAll H0 H vs ds → ∀ {i : Nat} {v : V}, vs[i]? = some v → ∃ d, ds[i]? = some d ∧ Fw H0 H v d
  | _, _, .nil, i, v, e => by simp at e
  | _, _, .cons a b, 0, v, e => by cases Option.some.inj e; exact ⟨_, rfl, a⟩
  | _, _, .cons a b, i + 1, v, e => FwAll.at b (i := i) (by simpa using e)
theorem FwAll.append {H0 H : Hp} : ∀ {ds es : List PyData} {vs us : List V}, FwAll H0 H vs ds → FwAll H0 H us es → FwAll H0 H (vs ++ us) (ds ++ es)
  | _, _, _, _, .nil, h => h
  | _, _, _, _, .cons a b, h => .cons a (FwAll.append b h)
/-! ### the readings of written values -/
def tLitW (d : PyData) : TE := fun _ H Q => ∀ v H', Sm H H' → Fw H H' v d → Q v H'
def tLitsW (ds : List PyData) : TA := fun _ H Q => ∀ vs H', Sm H H' → FwAll H H' vs ds → Q vs H'
theorem litW_int {i : Int} : LeE (tC (.int i)) (tLitW (.int i)) := fun _ H _ h => h _ H (Sm.refl _) (.int i)
theorem litW_str {x : Str} : LeE (tC (.str x)) (tLitW (.str x)) := fun _ H _ h => h _ H (Sm.refl _) (.str x)
theorem litW_bl {b : Bool} : LeE (tC (.bl b)) (tLitW (.bool b)) := fun _ H _ h => h _ H (Sm.refl _) (.bl b)
theorem litW_non : LeE (tC .non) (tLitW .none) := fun _ H _ h => h _ H (Sm.refl _) .non
theorem litsW_nil : LeA tNil (tLitsW []) := fun _ H _ h => h _ H (Sm.refl _) .nil
theorem litsW_cons {te : TE} {ta : TA} {d : PyData} {ds : List PyData} (he : LeE te (tLitW d)) (ha : LeA ta (tLitsW ds)) : LeA (tCons te ta) (tLitsW (d :: ds)) := fun σ H Q h =>
  he σ H _ fun v H1 s1 f1 => ha σ H1 _ fun vs H2 s2 f2 => h _ H2 (s1.trans s2) (.cons (f1.nw s2.nw) (f2.from s1))
theorem litW_tup {ta : TA} {ds : List PyData} (ha : LeA ta (tLitsW ds)) (hl : ds.length ≤ 1000) : LeE (tTup ta) (tLitW (.tuple ds)) := fun σ H Q h =>
  ha σ H _ fun vs H1 s1 f1 => ⟨by rw [f1.len]; exact Nat.le_trans hl (by decide), fun p hp => h _ _ (s1.trans (Sm.new hp)) (.tup upd_same (none_of s1 hp) (f1.nw (Sm.new hp).nw))⟩
theorem litW_lst {ta : TA} {ds : List PyData} (ha : LeA ta (tLitsW ds)) (hl : ds.length ≤ 1000) : LeE (tLstS ta) (tLitW (.list ds)) := fun σ H Q h =>
  ha σ H _ fun vs H1 s1 f1 => ⟨by rw [f1.len]; exact Nat.le_trans hl (by decide), fun p hp hs => h _ _ (s1.trans (Sm.new hp)) (.lst upd_same (none_of s1 hp) hs (f1.nw (Sm.new hp).nw))⟩
theorem litW_dct : LeE tDNewK (tLitW (.dict [])) := fun _ H _ h p hp => h _ _ (Sm.new hp) (.dct upd_same hp)
theorem litW_at {te : TE} {i : Int} (h : ∀ σ H (Q : VK), Q (.int i) H → te σ H Q) : LeE te (tLitW (.int i)) := fun σ H Q q => h σ H Q (q _ H (Sm.refl _) (.int i))
/-! ### written values, part by part: only the value is in the reading -/
section
variable {X : Cx} {e a b : Expr} {es : List Expr} {te te' : TE} {ta ta' : TA} {d : PyData} {ds : List PyData} {pos : Pos}
theorem pq_nil : PA X [] (tLitsW []) := pa_le pa_nil litsW_nil
theorem pq_cons (ha : PE X e (tLitW d)) (hr : PA X es (tLitsW ds)) (hs : starEach (e :: es) X.env = (false, eval e X.env) :: starEach es X.env := by rfl) : PA X (e :: es) (tLitsW (d :: ds)) := pa_le (pa_cons ha hr hs) (litsW_cons leE_refl leA_refl)
theorem pq_tup {x1} (h : PA X es (tLitsW ds)) (hl : ds.length ≤ 1000 := by decide) : PE X (.Tuple es x1 pos) (tLitW (.tuple ds)) := pe_le (pe_tup h) (litW_tup leA_refl hl)
theorem pq_lst (h : PA X es (tLitsW ds)) (hl : ds.length ≤ 1000 := by decide) : PE X (.List es pos) (tLitW (.list ds)) := pe_le (pe_lstS h) (litW_lst leA_refl hl)
theorem pq_dct : PE X (.Dict [] [] pos) (tLitW (.dict [])) := pe_le pe_dnewK litW_dct
theorem pq_of {v : V} (h : PE X e (tC v)) (l : LeE (tC v) (tLitW d)) : PE X e (tLitW d) := pe_le h l
theorem pq_neg {i : Int} (h : PE X a (tC (.int i))) : PE X (.UnaryOp .USub a pos) (tLitW (.int (-i))) := pe_le (pe_un un_neg h) (litW_at fun σ H Q q => ⟨_, rfl, q⟩)
theorem pq_pow {i j k : Int} (ha : PE X a (tC (.int i))) (hb : PE X b (tC (.int j))) (hc : CPow i j) (hk : i ^ j.toNat = k) : PE X (.BinOp a .Pow b pos) (tLitW (.int k)) := pe_le (pe_op op_pow ha hb) (litW_at fun σ H Q q => ⟨_, _, rfl, rfl, hc, by subst hk; exact q⟩)
end
mutual
theorem Fw.da {K : PySem.W.Frag} {ok : Addr → Prop} {H0 H : Hp} (hok : ∀ a, H0 a = none → ok a) : ∀ {d : PyData} {v : V}, Fw H0 H v d → Da K ok H v d
  | _, _, .non => .non
  | _, _, .bl b => .bl b
  | _, _, .int i => .int i
  | _, _, .str x => .str x
  | _, _, .tup h n g => .tup (SqT.of h) (FwAll.da hok g)
  | _, _, .lst h n m g => .lst h (hok _ n) m (FwAll.da hok g)
  | _, _, .dct h n => .dct h (hok _ n)
theorem FwAll.da {K : PySem.W.Frag} {ok : Addr → Prop} {H0 H : Hp} (hok : ∀ a, H0 a = none → ok a) : ∀ {ds : List PyData} {vs : List V}, FwAll H0 H vs ds → DaAll K ok H vs ds
  | _, _, .nil => .nil
  | _, _, .cons a b => .cons (Fw.da hok a) (FwAll.da hok b)
end
end Ml
namespace Ml
open PySem PySem.Spec PyProof.Rows L2
/-! ### values of any kind: what laws that draw them share -/
def okA (d r : Addr) : Addr → Prop := fun a => a ≠ d ∧ a ≠ r
theorem nx_mk {T : L2.St → Hp → Prop} {rt : VK} {bk ct : L2.St → Hp → Prop} {σ : L2.St} {H : Hp} (h : T σ H) : Ends.nx { nx := T, rt := rt, bk := bk, ct := ct } σ H := h
theorem seq_share {A B : TS} {D : Ends} {σ : L2.St} {H : Hp} (F : L2.St → Hp → Prop) (k : ∀ σ' H', F σ' H' → B D σ' H') (main : (∀ σ' H', F σ' H' → B D σ' H') → A { D with nx := B D } σ H) : tSeq A B D σ H := main k
def isT : PyData → Bool
  | .tuple _ => true
  | _ => false
def isI : PyData → Bool
  | .int _ => true
  | .bool _ => true
  | _ => false
def isB : PyData → Bool
  | .bool _ => true
  | _ => false
theorem kt_int (d : PyData) : kitB (tyN d) "int" = some (isI d) := by cases d <;> exact kit_int _
theorem kt_bool (d : PyData) : kitB (tyN d) "bool" = some (isB d) := by cases d <;> exact kit_bool _
theorem isI_yes : ∀ {x : PyData}, isI x = true → isB x = false → ∃ i, x = .int i
  | .int i, _, _ => ⟨i, rfl⟩
  | .bool _, _, g => by simp [isB] at g
  | .none, h, _ => by simp [isI] at h
  | .str _, h, _ => by simp [isI] at h
  | .list _, h, _ => by simp [isI] at h
  | .tuple _, h, _ => by simp [isI] at h
  | .dict _, h, _ => by simp [isI] at h
theorem big16 {n : Nat} (h : n ≤ 16000000) : n ≤ sizeLine := by rw [sizeLine_eq]; omega
theorem cut_any (xs : List V) (lo hi : Option Int) : ∃ a b, cutV xs lo hi = (xs.drop a).take b := ⟨_, _, rfl⟩
theorem wtAll_ints : ∀ ns : List Int, wtAll (ns.map PyData.int) = 47 * ns.length
  | [] => rfl
  | n :: ns => by
    have := wtAll_ints ns
    simp only [List.map_cons, wtAll, wt, this, List.length_cons]
    omega
theorem wtAll_rows : ∀ t : List (List Int), (∀ r ∈ t, r.length ≤ 12) → wtAll (t.map rowD) ≤ 569 * t.length
  | [], _ => Nat.le_refl _
  | r :: t, h => by
    have h1 := wtAll_rows t fun r hr => h r (List.mem_cons_of_mem _ hr)
    have h2 := h r List.mem_cons_self
    have h3 : wt (rowD r) = 47 * r.length + 3 := by
      show wtAll (r.map PyData.int) + 3 = _
      rw [wtAll_ints]
    simp only [List.map_cons, wtAll, h3, List.length_cons]
    omega
def bigB : Nat := 100000000000000000000000000000
theorem tab_sz {t : List (List Int)} (h : WT t) (hl : t.length ≤ 12) : (∀ y ∈ t.map rowD, Sz bigB 1 y) ∧ wtAll (t.map rowD) ≤ 7000 := by
  have hr : ∀ r ∈ t, r.length ≤ 12 ∧ ∀ x ∈ r, LvOk x := fun r hr => by
    obtain ⟨i, hi, e⟩ := List.getElem_of_mem hr
    obtain ⟨a, b⟩ := h i r (by rw [List.getElem?_eq_getElem hi, e])
    exact ⟨by omega, b⟩
  refine ⟨fun y hy => ?_, Nat.le_trans (wtAll_rows t fun r h => (hr r h).1) (by omega)⟩
  obtain ⟨r, hr', rfl⟩ := List.mem_map.mp hy
  intro z hz
  obtain ⟨i, hi, rfl⟩ := List.mem_map.mp hz
  have := (hr r hr').2 i hi
  unfold LvOk at this
  show i.natAbs ≤ bigB
  unfold bigB
  omega
/-! ### repr of a value, whatever is known of its places -/
def rReprZ (K : PySem.W.Frag) : List V → Hp → VK → Prop := fun vs H Q => ∃ ok : Addr → Prop, rReprA K ok vs H Q
theorem cr_reprZ {X : Cx} {k : Nat} (hg : X.A.guards = some []) (hr : Room k X.A) : CallR X (.builtin "repr") (rReprZ X.K) := fun pins s σ H xs us Q I r ⟨ok, h⟩ => cr_reprA (ok := ok) hg hr pins s σ H xs us Q I r h
/-! ### faults of values -/
def isLv : PyData → Bool
  | .int i => decide (1 ≤ i) && decide (i ≤ 1000000000000)
  | _ => false
theorem isLv_int {x : PyData} (h : (isI x && !isB x) = false) : isLv x = false := by
  cases x <;> first | rfl | (simp [isI, isB] at h)
/-! ### readings that yield values of any kind -/
def GV (K : PySem.W.Frag) (d r : Addr) (B k W : Nat) (H : Hp) (v : V) : Prop := ∃ x, Da K (okA d r) H v x ∧ Sz B k x ∧ wt x ≤ W
/-- a tuple: its parts, how large they are -/
def GT (K : PySem.W.Frag) (d r : Addr) (B k W m : Nat) (H : Hp) (v : V) : Prop := ∃ a xs ds, v = .ref a ∧ SqT K H a xs ∧ DaAll K (okA d r) H xs ds ∧ (∀ y ∈ ds, Sz B k y) ∧ wtAll ds ≤ W ∧ ds.length ≤ m
section
variable {K : PySem.W.Frag} {d c r : Addr} {B k W m B' k' W' m' : Nat} {H H' : Hp} {v : V} {n : Nat}
theorem GV.same (h : GV K d r B k W H v) (e : Sm H H') : GV K d r B k W H' v := by
  obtain ⟨x, a, b, w⟩ := h
  exact ⟨x, a.same e, b, w⟩
theorem GV.kp (D : Dr H d c r n) (e : Kp d r H H') (h : GV K d r B k W H v) : GV K d r B k W H' v := by
  obtain ⟨x, a, b, z⟩ := h
  exact ⟨x, a.kp (fun _ h => h) D e, b, z⟩
theorem GV.mono (h : GV K d r B k W H v) (hB : B ≤ B') (hk : k ≤ k') (hW : W ≤ W') : GV K d r B' k' W' H v := by
  obtain ⟨x, a, b, z⟩ := h
  exact ⟨x, a, b.mono hB hk, by omega⟩
theorem GT.same (h : GT K d r B k W m H v) (e : Sm H H') : GT K d r B k W m H' v := by
  obtain ⟨a, xs, ds, h1, h2, h3, h4⟩ := h
  exact ⟨a, xs, ds, h1, e.sqT h2, h3.same e, h4⟩
theorem GT.kp (D : Dr H d c r n) (e : Kp d r H H') (h : GT K d r B k W m H v) : GT K d r B k W m H' v := by
  obtain ⟨a, xs, ds, h1, h2, h3, h4⟩ := h
  exact ⟨a, xs, ds, h1, D.kpT e h2, h3.kp (fun _ h => h) D e, h4⟩
theorem GT.gv (h : GT K d r B k W m H v) : GV K d r B (k + 1) (W + 3) H v := by
  obtain ⟨a, xs, ds, rfl, h2, h3, h4, h5, _⟩ := h
  exact ⟨.tuple ds, .tup h2 h3, h4, by simp only [wt]; omega⟩
theorem GT.mono (h : GT K d r B k W m H v) (hB : B ≤ B') (hk : k ≤ k') (hW : W ≤ W') (hm : m ≤ m') : GT K d r B' k' W' m' H v := by
  obtain ⟨a, xs, ds, h1, h2, h3, h4, h5, h6⟩ := h
  exact ⟨a, xs, ds, h1, h2, h3, fun y hy => (h4 y hy).mono hB hk, by omega, by omega⟩
/-- values, each good: their data -/
theorem gv_all : ∀ {xs : List V}, (∀ v ∈ xs, GV K d r B k W H v) → ∃ ds, DaAll K (okA d r) H xs ds ∧ (∀ y ∈ ds, Sz B k y) ∧ wtAll ds ≤ xs.length * (W + 2)
  | [], _ => ⟨[], .nil, fun y hy => by simp at hy, Nat.zero_le _⟩
  | v :: xs, h => by
    obtain ⟨x, h1, h2, h3⟩ := h v List.mem_cons_self
    obtain ⟨ds, g1, g2, g3⟩ := gv_all fun u hu => h u (List.mem_cons_of_mem _ hu)
    refine ⟨x :: ds, .cons h1 g1, fun y hy => ?_, ?_⟩
    · rcases List.mem_cons.mp hy with rfl | hy
      · exact h2
      · exact g2 y hy
    · have e1 : (xs.length + 1) * (W + 2) = xs.length * (W + 2) + (W + 2) := Nat.succ_mul _ _
      simp only [wtAll, List.length_cons, e1]
      omega
end
/-- what stays good whatever is drawn and laid anew -/
def Sta (d c r : Addr) (G : Hp → V → Prop) : Prop := ∀ n H H' v, Dr H d c r n → Kp d r H H' → G H v → G H' v
def StaJ (d c r : Addr) (J : L2.St → Hp → Prop) : Prop := ∀ n σ H H', Dr H d c r n → Kp d r H H' → J σ H → J σ H'
/-- a reading that yields a good value and draws at most k times -/
def GE (d c r : Addr) (J : L2.St → Hp → Prop) (L k : Nat) (G : Hp → V → Prop) (te : TE) : Prop :=
  ∀ n σ H (Q : VK), n + k ≤ L → Dr H d c r n → J σ H → (∀ v H', Kp d r H H' → Dr H' d c r (n + k) → J σ H' → G H' v → Q v H') → te σ H Q
def GA (d c r : Addr) (J : L2.St → Hp → Prop) (L k m : Nat) (G : Hp → V → Prop) (ta : TA) : Prop :=
  ∀ n σ H (Q : List V → Hp → Prop), n + k ≤ L → Dr H d c r n → J σ H → (∀ vs H', Kp d r H H' → Dr H' d c r (n + k) → J σ H' → vs.length = m → (∀ v ∈ vs, G H' v) → Q vs H') → ta σ H Q
/-- a list that is none of the drawing's, of good values -/
structure LV (d r : Addr) (G : Hp → V → Prop) (H : Hp) (l : Addr) (xs : List V) : Prop where
  at_ : H l = some (.lst xs)
  nd : l ≠ d
  nr : l ≠ r
  good : ∀ v ∈ xs, G H v
section
variable {K : PySem.W.Frag} {d c r : Addr} {J : L2.St → Hp → Prop} {L B k W m : Nat} {G : Hp → V → Prop}
theorem sta_gv : Sta d c r (GV K d r B k W) := fun _ _ _ _ D e h => h.kp D e
theorem LV.kp (hG : Sta d c r G) {n : Nat} {H H' : Hp} {l : Addr} {xs : List V} (h : LV d r G H l xs) (D : Dr H d c r n) (e : Kp d r H H') : LV d r G H' l xs := ⟨e _ _ h.at_ h.nd h.nr, h.nd, h.nr, fun v hv => hG _ _ _ _ D e (h.good v hv)⟩
theorem GE.mono {G' : Hp → V → Prop} {te : TE} {k' : Nat} (h : GE d c r J L k G te) (hk : k ≤ k') (g : ∀ H v, G H v → G' H v) : GE d c r J L k' G' te := fun n σ H Q hn D hJ q => h n σ H Q (by omega) D hJ fun v H' a b e f => q v H' a (b.mono (by omega)) e (g _ _ f)
theorem ga_nil : GA d c r J L 0 0 G tNil := fun n σ H Q hn D hJ q => q [] H (Kp.refl d r H) D hJ rfl (fun v hv => by simp at hv)
theorem ga_cons (hG : Sta d c r G) {k1 k2 : Nat} {te : TE} {ta : TA} (h1 : GE d c r J L k1 G te) (h2 : GA d c r J L k2 m G ta) : GA d c r J L (k1 + k2) (m + 1) G (tCons te ta) := fun n σ H Q hn D hJ q =>
  h1 n σ H _ (by omega) D hJ fun v H1 a1 D1 j1 g1 => h2 (n + k1) σ H1 _ (by omega) D1 j1 fun vs H2 a2 D2 j2 l2 g2 => q (v :: vs) H2 (a1.trans a2) (by rw [← Nat.add_assoc]; exact D2) j2 (by rw [List.length_cons, l2]) fun u hu => by
    rcases List.mem_cons.mp hu with rfl | hu
    · exact hG _ _ _ _ D1 a2 g1
    · exact g2 u hu
theorem ge_lst (hG : Sta d c r G) (hJ : StaJ d c r J) {ta : TA} (h : GA d c r J L k m G ta) (hm : m ≤ 1000) {n : Nat} {σ : L2.St} {H : Hp} {Q : VK} (hn : n + k ≤ L) (D : Dr H d c r n) (j : J σ H)
    (q : ∀ l xs H', Kp d r H H' → Dr H' d c r (n + k) → J σ H' → LV d r G H' l xs → xs.length = m → Q (.ref l) H') : tLst ta σ H Q :=
  h n σ H _ hn D j fun vs H1 a1 D1 j1 l1 g1 => ⟨by rw [l1]; exact Nat.le_trans hm (by decide), fun p hp => by
    have s1 : Sm H1 (upd H1 p (.lst vs)) := Sm.new hp
    exact q p vs _ (a1.trans s1.kp) (D1.same s1) (hJ _ _ _ _ D1 s1.kp j1) ⟨upd_same, (D1.ne hp).1, (D1.ne hp).2.2, fun v hv => hG _ _ _ _ D1 s1.kp (g1 v hv)⟩ l1⟩
/-- found = found + [..] -/
theorem ge_cat (hG : Sta d c r G) (hJ : StaJ d c r J) {ta : TA} (h : GA d c r J L k m G ta) {n : Nat} {σ : L2.St} {H : Hp} {Q : VK} {i : Nat} {l : Addr} {xs : List V} (hσ : σ[i]? = some (some (.ref l))) (hl : LV d r G H l xs) (hm : xs.length + m ≤ 1000) (hn : n + k ≤ L) (D : Dr H d c r n) (j : J σ H)
    (q : ∀ l' xs' H', Kp d r H H' → Dr H' d c r (n + k) → J σ H' → LV d r G H' l' xs' → xs'.length = xs.length + m → Q (.ref l') H') : tOp rCat (tVar i) (tLst ta) σ H Q :=
  ⟨.ref l, hσ, ge_lst hG hJ h (by omega) hn D j fun l2 ys H1 a1 D1 j1 g1 e1 => ⟨l, l2, xs, ys, rfl, rfl, (hl.kp hG D a1).at_, g1.at_, by rw [e1]; exact Nat.le_trans hm (by decide), fun p hp => by
    have s1 : Sm H1 (upd H1 p (.lst (xs ++ ys))) := Sm.new hp
    refine q p _ _ (a1.trans s1.kp) (D1.same s1) (hJ _ _ _ _ D1 s1.kp j1) ⟨upd_same, (D1.ne hp).1, (D1.ne hp).2.2, fun v hv => hG _ _ _ _ D1 s1.kp ?_⟩ (by rw [List.length_append, e1])
    rcases List.mem_append.mp hv with hv | hv
    · exact (hl.kp hG D a1).good v hv
    · exact g1.good v hv⟩⟩
end
/-! ### the same as statements -/
section
variable {K : PySem.W.Frag} {d c r : Addr} {J : L2.St → Hp → Prop} {L B k W m : Nat} {G : Hp → V → Prop}
theorem sq_lst (hG : Sta d c r G) (hJ : StaJ d c r J) {ta : TA} (h : GA d c r J L k m G ta) {n i : Nat} {σ : L2.St} {H : Hp} {u : TS} {D : Ends} (hm : m ≤ 1000) (hn : n + k ≤ L) (hD : Dr H d c r n) (j : J σ H)
    (q : ∀ l xs H', Kp d r H H' → Dr H' d c r (n + k) → J σ H' → LV d r G H' l xs → xs.length = m → u D (σ.set i (some (.ref l))) H') : tSeq (tAsg (tLst ta) (gName i)) u D σ H := ge_lst (Q := fun x H1 => gName i x σ H1 (u D)) hG hJ h hm hn hD j q
theorem sq_cat (hG : Sta d c r G) (hJ : StaJ d c r J) {ta : TA} (h : GA d c r J L k m G ta) {n i i' : Nat} {σ : L2.St} {H : Hp} {u : TS} {D : Ends} {l : Addr} {xs : List V} (hσ : σ[i]? = some (some (.ref l))) (hl : LV d r G H l xs) (hm : xs.length + m ≤ 1000) (hn : n + k ≤ L) (hD : Dr H d c r n) (j : J σ H)
    (q : ∀ l' xs' H', Kp d r H H' → Dr H' d c r (n + k) → J σ H' → LV d r G H' l' xs' → xs'.length = xs.length + m → u D (σ.set i' (some (.ref l'))) H') : tSeq (tAsg (tOp rCat (tVar i) (tLst ta)) (gName i')) u D σ H := ge_cat (Q := fun x H1 => gName i' x σ H1 (u D)) hG hJ h hσ hl hm hn hD j q
/-- at the end of a suite -/
theorem as_cat (hG : Sta d c r G) (hJ : StaJ d c r J) {ta : TA} (h : GA d c r J L k m G ta) {n i i' : Nat} {σ : L2.St} {H : Hp} {D : Ends} {l : Addr} {xs : List V} (hσ : σ[i]? = some (some (.ref l))) (hl : LV d r G H l xs) (hm : xs.length + m ≤ 1000) (hn : n + k ≤ L) (hD : Dr H d c r n) (j : J σ H)
    (q : ∀ l' xs' H', Kp d r H H' → Dr H' d c r (n + k) → J σ H' → LV d r G H' l' xs' → xs'.length = xs.length + m → D.nx (σ.set i' (some (.ref l'))) H') : tAsg (tOp rCat (tVar i) (tLst ta)) (gName i') D σ H := ge_cat (Q := fun x H1 => gName i' x σ H1 D.nx) hG hJ h hσ hl hm hn hD j q
theorem rt_cat (hG : Sta d c r G) (hJ : StaJ d c r J) {ta : TA} (h : GA d c r J L k m G ta) {n i : Nat} {σ : L2.St} {H : Hp} {D : Ends} {l : Addr} {xs : List V} (hσ : σ[i]? = some (some (.ref l))) (hl : LV d r G H l xs) (hm : xs.length + m ≤ 1000) (hn : n + k ≤ L) (hD : Dr H d c r n) (j : J σ H)
    (q : ∀ l' xs' H', Kp d r H H' → Dr H' d c r (n + k) → J σ H' → LV d r G H' l' xs' → xs'.length = xs.length + m → D.rt (.ref l') H') : tRet (tOp rCat (tVar i) (tLst ta)) D σ H := ge_cat (Q := D.rt) hG hJ h hσ hl hm hn hD j q
theorem gnm {i : Nat} {v : V} {σ : L2.St} {H : Hp} {Q : L2.St → Hp → Prop} (h : Q (σ.set i (some v)) H) : gName i v σ H Q := h
/-- name = a value -/
theorem sq_set {te : TE} (h : GE d c r J L k G te) {n i : Nat} {σ : L2.St} {H : Hp} {u : TS} {D : Ends} (hn : n + k ≤ L) (hD : Dr H d c r n) (j : J σ H)
    (q : ∀ v H', Kp d r H H' → Dr H' d c r (n + k) → J σ H' → G H' v → u D (σ.set i (some v)) H') : tSeq (tAsg te (gName i)) u D σ H := h n σ H (fun x H1 => gName i x σ H1 (u D)) hn hD j q
end
/-! ### the readings, one by one -/
section
variable {K : PySem.W.Frag} {d c r : Addr} {J : L2.St → Hp → Prop} {L B k W m B' k' W' m' k1 k2 W1 W2 m1 m2 : Nat} {G : Hp → V → Prop} {te te' : TE} {ta : TA} {tl th : TO}
theorem ge_var {i : Nat} (h : ∀ σ H, J σ H → ∃ v, σ[i]? = some (some v) ∧ G H v) : GE d c r J L 0 G (tVar i) := fun n σ H Q hn D hJ q => by
  obtain ⟨v, e, g⟩ := h σ H hJ
  exact ⟨v, e, q v H (Kp.refl d r H) D hJ g⟩
theorem ge_up (h : GE d c r J L k (GV K d r B k1 W) te) (hB : B ≤ B' := by decide) (hk : k1 ≤ k' := by decide) (hW : W ≤ W' := by decide) : GE d c r J L k (GV K d r B' k' W') te := h.mono (Nat.le_refl _) fun _ _ g => g.mono hB hk hW
/-- a tuple as a value, with room -/
theorem ge_tv (h : GE d c r J L k (GT K d r B k1 W m) te) (hB : B ≤ B' := by decide) (hk : k1 + 1 ≤ k' := by decide) (hW : W + 3 ≤ W' := by decide) : GE d c r J L k (GV K d r B' k' W') te := h.mono (Nat.le_refl _) fun _ _ g => g.gv.mono hB hk hW
theorem ge_tup (hJ : StaJ d c r J) (h : GA d c r J L k m (GV K d r B k1 W) ta) (hm : m ≤ 1000 := by decide) : GE d c r J L k (GT K d r B k1 (m * (W + 2)) m) (tTup ta) := fun n σ H Q hn D j q =>
  h n σ H _ hn D j fun vs H1 a1 D1 j1 l1 g1 => ⟨by rw [l1]; exact Nat.le_trans hm (by decide), fun p hp => by
    have s1 : Sm H1 (upd H1 p (.tup vs)) := Sm.new hp
    obtain ⟨ds, e1, e2, e3⟩ := gv_all g1
    exact q (.ref p) _ (a1.trans s1.kp) (D1.same s1) (hJ _ _ _ _ D1 s1.kp j1) ⟨p, vs, ds, rfl, SqT.of upd_same, e1.same s1, e2, by rw [← l1]; exact e3, by rw [← e1.len, l1]; exact Nat.le_refl _⟩⟩
theorem ge_list (hJ : StaJ d c r J) (h : GA d c r J L k m (GV K d r B k1 W) ta) (hm : m ≤ 1000 := by decide) : GE d c r J L k (GV K d r B (k1 + 1) (m * (W + 2) + 3)) (tLstS ta) := fun n σ H Q hn D j q =>
  h n σ H _ hn D j fun vs H1 a1 D1 j1 l1 g1 => ⟨by rw [l1]; exact Nat.le_trans hm (by decide), fun p hp hs => by
    have s1 : Sm H1 (upd H1 p (.lst vs)) := Sm.new hp
    obtain ⟨ds, e1, e2, e3⟩ := gv_all g1
    exact q (.ref p) _ (a1.trans s1.kp) (D1.same s1) (hJ _ _ _ _ D1 s1.kp j1) ⟨.list ds, .lst upd_same ⟨(D1.ne hp).1, (D1.ne hp).2.2⟩ hs (e1.same s1), e2, by simp only [wt]; rw [← l1]; omega⟩⟩
/-- a slice's part -/
def GO (d c r : Addr) (J : L2.St → Hp → Prop) (tl : TO) : Prop := ∀ n σ H Q, Dr H d c r n → J σ H → (∀ l, Q l H) → tl σ H Q
theorem go_none : GO d c r J tNoPart := fun _ _ H Q _ _ q => q none
theorem go_neg {i : Int} : GO d c r J (tPart (tUn (rU fun i => .int (-i)) (tC (.int i)))) := fun _ _ H Q _ _ q => ⟨i, rfl, _, rfl, q _⟩
theorem go_var {i : Nat} (h : ∀ σ H, J σ H → ∃ x : Int, σ[i]? = some (some (.int x))) : GO d c r J (tPart (tVar i)) := fun _ σ H Q _ j q => by
  obtain ⟨x, e⟩ := h σ H j
  exact ⟨_, e, x, rfl, q _⟩
/-- a written value -/
theorem ge_lit (hJ : StaJ d c r J) {x : PyData} (hs : Sz B k1 x) (hw : wt x ≤ W) : GE d c r J L 0 (GV K d r B k1 W) (tLitW x) := fun n σ H Q hn D j q v H' s f =>
  q v H' s.kp (D.same s) (hJ _ _ _ _ D s.kp j) ⟨x, f.da fun a ha => ⟨(D.ne ha).1, (D.ne ha).2.2⟩, hs, hw⟩
theorem ge_non : GE d c r J L 0 (GV K d r B k1 (W + 4)) (tC .non) := fun n σ H Q hn D j q => q .non H (Kp.refl d r H) D j ⟨.none, .non, .none, by simp only [wt]; omega⟩
theorem ge_bl {b : Bool} : GE d c r J L 0 (GV K d r B k1 (W + 5)) (tC (.bl b)) := fun n σ H Q hn D j q => q (.bl b) H (Kp.refl d r H) D j ⟨.bool b, .bl b, .bool b, by simp only [wt]; omega⟩
theorem ge_int {i : Int} (hi : i.natAbs ≤ B) : GE d c r J L 0 (GV K d r B k1 (W + 45)) (tC (.int i)) := fun n σ H Q hn D j q => q (.int i) H (Kp.refl d r H) D j ⟨.int i, .int i, .int hi, by simp only [wt]; omega⟩
end
mutual
theorem Da.okm {K : PySem.W.Frag} {ok ok' : Addr → Prop} {H : Hp} (e : ∀ a, ok a → ok' a) : ∀ {d : PyData} {v : V}, Da K ok H v d → Da K ok' H v d
  | _, _, .non => .non
  | _, _, .bl b => .bl b
  | _, _, .int i => .int i
  | _, _, .str x => .str x
  | _, _, .lst h o n g => .lst h (e _ o) n (DaAll.okm e g)
  | _, _, .tup h g => .tup h (DaAll.okm e g)
  | _, _, .dct h o => .dct h (e _ o)
theorem DaAll.okm {K : PySem.W.Frag} {ok ok' : Addr → Prop} {H : Hp} (e : ∀ a, ok a → ok' a) : ∀ {ds : List PyData} {vs : List V}, DaAll K ok H vs ds → DaAll K ok' H vs ds
  | _, _, .nil => .nil
  | _, _, .cons a b => .cons (Da.okm e a) (DaAll.okm e b)
end
def allOk : Addr → Prop := fun _ => True
theorem Da.all {K : PySem.W.Frag} {ok : Addr → Prop} {H : Hp} {d : PyData} {v : V} (h : Da K ok H v d) : Da K allOk H v d := h.okm fun _ _ => trivial
theorem DaAll.snoc {K : PySem.W.Frag} {ok : Addr → Prop} {H : Hp} {vs : List V} {ds : List PyData} {v : V} {d : PyData} (h : DaAll K ok H vs ds) (g : Da K ok H v d) : DaAll K ok H (vs ++ [v]) (ds ++ [d]) := h.append (.one g)
theorem lt_line {n : Nat} (h : n ≤ 1000000) : n < sizeLine := by rw [sizeLine_eq]; omega
/-- what repr asks of data -/
theorem showZ {z : PyData} {B n : Nat} (h : Sz B n z) (hw : wt z ≤ 16000000) (hB : B < 10 ^ 40 := by decide) (hn : n ≤ 30 := by decide) : z.showable = true ∧ z.depth ≤ 30 ∧ z.shown.length ≤ sizeLine :=
  ⟨h.show hB, Nat.le_trans (h.depth) hn, Nat.le_trans (h.text hB) (big16 hw)⟩
/-! ### a list that is not empty -/
def rNeNilL (K : PySem.W.Frag) : R2 := fun x y H Q => ∃ a b xs, x = .ref a ∧ y = .ref b ∧ SqL K H a xs ∧ SqL K H b [] ∧ Q (.bl (!decide (xs = []))) H
theorem plain_isl {h : Heap} {a : Addr} {its : Array Value} (p : PlainL h a its) : h.IsList a its := by
  obtain ⟨o, n, h1, h2, _, h3⟩ := p
  exact ⟨o, h1, h2, n, h3⟩
theorem op_neNilL {X : Cx} (hu : X.A.units + 64 < cLine) : OpR X (compareOp .NotEq) (rNeNilL X.K) := by
  intro pins s σ H x y v u Q I r1 r2 h
  obtain ⟨a, b, xs, rfl, rfl, h1, h2, q⟩ := h
  cases r1
  cases r2
  obtain ⟨its, ri, pi, _⟩ := I.list h1
  obtain ⟨its2, ri2, pi2, _⟩ := I.list h2
  cases ri2
  have hl := ri.length
  cases xs with
  | nil =>
    cases ri
    refine SeqAt.RcNeAt.lists (e := fun _ => true) (plain_isl pi) (plain_isl pi2) rfl (by omega) (fun j _ h2 => absurd h2 (by simp)) X.prog X.w _ _ ?_
    exact ⟨.bl false, H, I, rfl, q⟩
  | cons x l =>
    cases ri with
    | cons r1 r2 =>
      refine SeqAt.RcNeAt.lists_lengths (plain_isl pi) (plain_isl pi2) (by simp) (by omega) X.prog X.w _ _ ?_
      exact ⟨.bl true, H, I, rfl, q⟩
end Ml
namespace Ml
open PySem PySem.Spec PyProof.Rows L2
/-! ### data without lists; comprehensions that draw -/
def noL : Addr → Prop := fun _ => False
section
variable {K : PySem.W.Frag} {d c r D : Addr} {H H' H1 Hy H4 : Hp}
theorem Da.noL {ok : Addr → Prop} {x : PyData} {v : V} (h : Da K noL H v x) : Da K ok H v x := h.okm fun _ z => z.elim
theorem DaAll.noL {ok : Addr → Prop} {x : List PyData} {v : List V} (h : DaAll K noL H v x) : DaAll K ok H v x := h.okm fun _ z => z.elim
theorem DaAll.nst {ys zs : List V} {ds : List PyData} {vs : List V} (h : DaAll K Ml.noL H vs ds) (hl : H D = some (.lst ys)) : DaAll K Ml.noL (upd H D (.lst zs)) vs ds :=
  h.to (fun a o e z => z.elim) fun a xs e => sqT_upd hl e
theorem Da.nst {ys zs : List V} {ds : PyData} {vs : V} (h : Da K Ml.noL H vs ds) (hl : H D = some (.lst ys)) : Da K Ml.noL (upd H D (.lst zs)) vs ds :=
  h.to (fun a o e z => z.elim) fun a xs e => sqT_upd hl e
theorem DaAll.nkp {n : Nat} {ds : List PyData} {vs : List V} (h : DaAll K Ml.noL H vs ds) (g : Dr H d c r n) (e : Kp d r H H') : DaAll K Ml.noL H' vs ds := h.kp (fun _ z => z.elim) g e
/-- what a comprehension over j items has collected at D; it drew k times for each -/
structure CP (K : PySem.W.Frag) (d c r : Addr) (H1 : Hp) (D : Addr) (n k : Nat) (Pd : Nat → PyData → Prop) (j : Nat) (Hy : Hp) : Prop where
  ex : ∃ ms ds, Hy D = some (.lst ms) ∧ DaAll K Ml.noL Hy ms ds ∧ ds.length = j ∧ ∀ i y, ds[i]? = some y → Pd i y
  dr : Dr Hy d c r (n + k * j)
  kp : Kp d r H1 Hy
variable {n k : Nat} {Pd : Nat → PyData → Prop} {j : Nat}
theorem CP.init (g : Dr H1 d c r n) (hD : H1 D = none) : CP K d c r H1 D n k Pd 0 (upd H1 D (.lst [])) :=
  ⟨⟨[], [], upd_same, .nil, rfl, fun i y h => by simp at h⟩, g.new hD, Kp.new hD⟩
theorem CP.step (h : CP K d c r H1 D n k Pd j Hy) (g1 : Dr H1 d c r n) (hD : H1 D = none) (hj : j ≤ 1000) {y : V} {u : PyData} (e : Kp d r Hy H4) (g : Dr H4 d c r (n + k * j + k)) (a : Da K Ml.noL H4 y u) (p : Pd j u) :
    ∃ acc, H4 D = some (.lst acc) ∧ acc.length < sizeLine ∧ CP K d c r H1 D n k Pd (j + 1) (upd H4 D (.lst (acc ++ [y]))) := by
  obtain ⟨ms, ds, h1, h2, h3, h4⟩ := h.ex
  have nD := g1.ne hD
  have h1' := e _ _ h1 nD.1 nD.2.2
  have hl := h2.len
  refine ⟨ms, h1', lt_line (by omega), ⟨⟨ms ++ [y], ds ++ [u], upd_same, ((h2.nkp h.dr e).append (.one a)).nst h1', by rw [List.length_append, h3]; rfl, fun i z hz => ?_⟩, ?_, fun b o q q1 q2 => ?_⟩⟩
  · by_cases hi : i < ds.length
    · rw [List.getElem?_append_left hi] at hz
      exact h4 i z hz
    · rw [List.getElem?_append_right (by omega)] at hz
      cases e2 : i - ds.length with
      | zero =>
        rw [e2] at hz
        cases Option.some.inj hz
        obtain rfl : i = j := by omega
        exact p
      | succ q => rw [e2] at hz; simp at hz
  · rw [Nat.mul_succ, ← Nat.add_assoc]
    exact g.upd nD.1 nD.2.1 nD.2.2
  · rw [upd_ne (ne_of_none q hD)]
    exact e b o (h.kp b o q q1 q2) q1 q2
/-- tuple(..) of it -/
theorem CP.tuple (h : CP K d c r H1 D n k Pd j Hy) {Q : VK} (q : ∀ (p : Addr) (ds : List PyData) (H' : Hp), Da K Ml.noL H' (.ref p) (.tuple ds) → ds.length = j → (∀ i y, ds[i]? = some y → Pd i y) → Dr H' d c r (n + k * j) → Kp d r H1 H' → Q (.ref p) H') :
    ∃ p ys, ([V.ref D] : List V) = [.ref p] ∧ ((SqL K Hy p ys ∧ ∀ l, Hy l = none → Q (.ref l) (upd Hy l (.tup ys))) ∨ (SqT K Hy p ys ∧ Q (.ref p) Hy)) := by
  obtain ⟨ms, ds, h1, h2, h3, h4⟩ := h.ex
  refine ⟨D, ms, rfl, .inl ⟨SqL.of h1, fun l hl => ?_⟩⟩
  have s := Sm.new (o := .tup ms) hl
  exact q l ds _ (.tup (SqT.of upd_same) (h2.same s)) h3 h4 (h.dr.same s) (h.kp.trans s.kp)
end
end Ml
namespace Ml
open PySem PySem.Spec PyProof.Rows L2
/-- a set that has just been made -/
abbrev emptyS (w : World) : Obj := { cls := .type "set", dict := none, data := .set #[] 0 (.fresh 0 0 (!w.params.followText "set-order")) }
section
variable {P : Program} {w : World} {A : Around} {E : Value → Shared → Prop} {s : Shared}
set_option maxHeartbeats 6400000 in
/-- set(l) of a list of ints -/
theorem set_of_list {l : Addr} {vals : Array Value} (zs : List Int) {Q : Value → Shared → Prop} (calm : A.handled = none) (isl : s.heap.IsList l vals) (are : IntsAre vals.toList zs) (few : zs.length + 1 < scanBound)
    (fin : ∀ (g : Heap) (tk c : Nat), SetR w g s.heap.objs.size (fun j => decide (j ∈ zs)) c → c ≤ zs.length → (∀ b o, s.heap.get? b = some o → g.get? b = some o) → Q (.ref s.heap.objs.size) { s with heap := g, toks := tk }) :
    wpAny (model P w) A (call (.type "set") [.ref l]) Q E s := by
  have size : vals.size = zs.length := by
    have e := IntsAre.length are
    rwa [Array.length_toList] at e
  obtain ⟨_, _, mro⟩ := F.called_set.mro
  have made := F.called_set.made
  have subs := F.called_set.sub
  refine wpAny_call (codeAny_of_tree ?_)
  show wpAny _ _ (callAny (.type "set") _) _ _ _
  refine wpAny_pure ⟨Code.quiet_builtin _ (by decide +kernel), codeAny_builtin F.entry_type_call ?_⟩
  rw [Around.under_plain (weight_type_call_type "set" [.ref l] []) rfl]
  have a1 := F.called_set.notType
  have a2 := F.called_set.canCreate
  have a3 := F.typeCall_set_1 (.ref l)
  repeat (any_goals (first | assumption | wp_step))
  refine codeAny_mono (code_set_led1 (.ref l) (E := E) (Q₁ := fun v z => v = .ref s.heap.objs.size ∧ z = { s with heap := s.heap.push (emptyS w) }) ⟨rfl, rfl⟩) fun res z hz => ?_
  cases res with
  | error e => exact hz
  | ok fl =>
    cases fl with
    | ret obj =>
      obtain ⟨rfl, rfl⟩ := hz
      have there : (s.heap.push (emptyS w)).get? s.heap.objs.size = some (emptyS w) := Heap.get?_push_size _ rfl
      have typ : Shared.TypeIs { s with heap := s.heap.push (emptyS w) } (.ref s.heap.objs.size) "set" := ⟨_, there, rfl⟩
      have b1 := F.called_set.init.lookup
      have b2 := F.called_set.init.bind (.ref s.heap.objs.size)
      repeat (any_goals (first | assumption | wp_step))
      refine codeAny_mono (codeAny_call_builtin (R := wants (fun u z => u = .none ∧ ∃ g tk c, z = { s with heap := g, toks := tk } ∧ SetR w g s.heap.objs.size (fun j => decide (j ∈ zs)) c ∧ c ≤ zs.length ∧
          (∀ b o, s.heap.get? b = some o → g.get? b = some o)) E) F.called_set.init.plain F.entry_set_init (check_set_init_1 typ ?_)) fun res2 z2 hz2 => ?_
      · obtain ⟨⟨ocl, odi, oda, osl⟩, hol, hcl, nl, hda⟩ := isl
        simp only at hcl hda
        subst hcl hda
        have hol1 : (s.heap.push (emptyS w)).get? l = some { cls := .type "list", dict := odi, data := .seq vals nl, slots := osl } := Heap.get?_push_of_some _ hol
        have c1 := F.sub_list_set
        have c2 := F.sub_list_frozenset
        have c3 : (Value.type "list" == Value.type "dict") = false := by decide
        have isl1 : (s.heap.push (emptyS w)).IsList l vals := ⟨_, hol1, rfl, nl, rfl⟩
        unfold Builtin.«set.__init__» noKeywords Builtin.Frozenset.updateFrom
        generalize hPI : pyIter = PI
        wp_walk
        subst hPI
        refine wpAny_pyIter_list isl1 ?_
        refine wpAny_bind (wpAny_runValue ?_)
        have lo : l < s.heap.objs.size := Heap.lt_size hol
        have calm3 : A.in1.in1.in1.handled = none := by simp [calm]
        have n1 : l ≠ (s.heap.push (emptyS w)).objs.size := by
          rw [Heap.size_push]
          exact Nat.ne_of_lt (Nat.lt_of_lt_of_le lo (Nat.le_succ _))
        have n2 : s.heap.objs.size ∉ [(s.heap.push (emptyS w)).objs.size, l] := by
          rw [Heap.size_push]
          simp only [List.mem_cons, List.not_mem_nil, or_false, not_or]
          exact ⟨Nat.ne_of_lt (Nat.lt_succ_self _), fun e => Nat.lt_irrefl _ (e ▸ lo)⟩
        have vat : ∀ (i : Nat) (v : Value), vals[i]? = some v → ∃ k t, zs[i]? = some k ∧ v = .int k t := fun i v hv => by
          have hi : i < zs.length := by rw [← size]; exact (Array.getElem?_eq_some_iff.mp hv).1
          obtain ⟨t, e⟩ := PyProof.Rows.IntsAre.int_at are i v (by rw [Array.getElem?_toList]; exact hv)
          refine ⟨zs[i], t, List.getElem?_eq_getElem hi, ?_⟩
          rw [e, List.getD_eq_getElem?_getD, List.getElem?_eq_getElem hi] <;> rfl
        refine set_update_ints ((Walks.list calm3 _ l n1 vals).toS) s.heap.objs.size n2 zs size few vat (vals.size - 0) 0 _ (by omega) (Nat.zero_le _)
          ⟨⟨_, Heap.get?_push_size _ rfl, rfl, rfl⟩, isl1.push _⟩ ⟨0, Nat.le_refl 0, setR_new_at (Heap.get?_push_of_some _ there)⟩ ?_
        rintro ⟨g, ge, dr, tk, os⟩ c mv hc hS
        have e1 : ge = s.gens := mv.gens
        have e2 : dr = s.drawn := mv.drawn
        have e3 : os = s.os := mv.os
        subst e1 e2 e3
        show wpAny _ _ _ _ _ _
        refine wpAny_pure ?_
        show wpAny _ _ (ret Value.none) _ _ _
        rw [size] at hc
        refine wpAny_pure ⟨rfl, g, tk, c, rfl, hS, hc, fun b o e => ?_⟩
        have lb : b < s.heap.objs.size := Heap.lt_size e
        refine mv.heap b o ?_ (Heap.get?_push_of_some _ (Heap.get?_push_of_some _ e))
        rw [Heap.size_push]
        simp only [List.mem_cons, List.not_mem_nil, or_false, not_or]
        exact ⟨fun e => Nat.lt_irrefl _ (e ▸ lb), fun e => Nat.lt_irrefl _ (Nat.lt_trans lb (e ▸ Nat.lt_succ_self _))⟩
      · cases res2 with
        | error e => exact hz2
        | ok fl2 =>
          cases fl2 with
          | ret u =>
            obtain ⟨rfl, g, tk, c, rfl, hS, hc, keep⟩ := hz2
            repeat (any_goals (first | assumption | wp_step))
            exact fin _ _ _ hS hc keep
          | _ => exact hz2.elim
    | _ => exact hz.elim
end
section
variable {X : Cx}
def rSetL1 (K : PySem.W.Frag) (w : World) : List V → Hp → VK → Prop := fun vs H Q => ∃ (a : Addr) (zs : List Int), vs = [V.ref a] ∧ SqL K H a (zs.map V.int) ∧ zs.length ≤ 1000 ∧
  ∀ (p : Addr) (c : Nat), H p = none → c ≤ zs.length → Q (.ref p) (upd H p (SetO w p (fun j => decide (j ∈ zs)) c))
theorem cr_setL1 (hc : X.calm = true) : CallR X (.type "set") (rSetL1 X.K X.w) := by
  intro pins s σ H xs us Q I rxs h
  obtain ⟨a, zs, rfl, hs, few, q⟩ := h
  obtain ⟨u, rfl, ru⟩ := rxs.one
  cases ru
  obtain ⟨its, rv, ⟨o, n, ho, hcl, _, hd⟩, _⟩ := I.list hs
  refine set_of_list zs (I.ok.hd hc) ⟨o, ho, hcl, n, hd⟩ (ints_of_vals rv) (by unfold scanBound; omega) fun g tk c hS hc2 keep => ?_
  have free : H s.heap.objs.size = none := I.hok.fresh (Nat.le_refl _)
  exact ⟨.ref s.heap.objs.size, upd H s.heap.objs.size (SetO X.w s.heap.objs.size _ c), I.laid (t' := tk) keep (Nat.le_refl _) (setO_new hS), rfl, q _ c free hc2⟩
end
end Ml
/-! sorted of a set of ints of any size; a set of ints by two clauses without tests -/
namespace Ml
open PySem PySem.Spec PyProof.Rows L2
/-! ### a dict that is locked meanwhile -/
def Off (d : Addr) (H H' : Hp) : Prop := ∀ b o, H b = some o → b ≠ d → H' b = some o
theorem Off.upd {d : Addr} {H : Hp} {o : HO} : Off d H (L2.upd H d o) := fun b x e n => by rw [upd_ne n]; exact e
theorem Off.trans {d : Addr} {H H1 H2 : Hp} (a : Off d H H1) (b : Off d H1 H2) : Off d H H2 := fun c o h n => b c o (a c o h n) n
theorem Off.sqT {K : PySem.W.Frag} {d a : Addr} {H H' : Hp} {kvs : List (Key × V)} {xs : List V} (e : Off d H H') (hd : H d = some (.dK kvs)) (h : SqT K H a xs) : SqT K H' a xs := by
  rcases h with (q | ⟨o, q⟩) | q
  · exact .inl (.inl (e _ _ q (ne_of q hd (by intro z; cases z))))
  · exact .inl (.inr ⟨o, e _ _ q (ne_of q hd (by intro z; cases z))⟩)
  · exact .inr q
/-! ### limits by their names -/
end Ml
namespace Ml
open PySem PySem.Spec PyProof.Rows L2
/-! ### name = {k: v for ..} -/
/-! ### a dict of paths by their last items -/
abbrev nIv (os : List Nat) : List V := os.map fun i : Nat => V.int (i : Int)
def PD (K : PySem.W.Frag) (H : Hp) (kvs : List (Key × V)) (S : List (List Nat)) : Prop := kvs.length = S.length ∧ ∀ (i : Nat) kv p, kvs[i]? = some kv → S[i]? = some p → kv.1 = Sum.inl ((lst p : Nat) : Int) ∧ ∃ a, kv.2 = .ref a ∧ SqT K H a (nIv p)
theorem PD.same {K : PySem.W.Frag} {H H' : Hp} {kvs : List (Key × V)} {S : List (List Nat)} (h : PD K H kvs S) (e : Sm H H') : PD K H' kvs S :=
  ⟨h.1, fun i kv p a b => let ⟨h1, q, h2, h3⟩ := h.2 i kv p a b; ⟨h1, q, h2, e.sqT h3⟩⟩
theorem PD.nil {K : PySem.W.Frag} {H : Hp} : PD K H [] [] := ⟨rfl, fun i kv p a _ => by simp at a⟩
theorem PD.snoc {K : PySem.W.Frag} {H : Hp} {kvs : List (Key × V)} {S : List (List Nat)} {a : Addr} {p : List Nat} (h : PD K H kvs S) (hp : SqT K H a (nIv p)) : PD K H (kvs ++ [(Sum.inl ((lst p : Nat) : Int), .ref a)]) (S ++ [p]) := by
  refine ⟨by rw [List.length_append, List.length_append, h.1]; rfl, fun i kv q x y => ?_⟩
  by_cases hi : i < kvs.length
  · rw [List.getElem?_append_left hi] at x
    rw [List.getElem?_append_left (by rw [← h.1]; exact hi)] at y
    exact h.2 i kv q x y
  · rw [List.getElem?_append_right (by omega)] at x
    rw [List.getElem?_append_right (by rw [← h.1]; omega), ← h.1] at y
    have hx0 : i - kvs.length = 0 := by
      have := (List.getElem?_eq_some_iff.mp x).1
      simp at this
      omega
    rw [hx0] at x y
    cases Option.some.inj x
    cases Option.some.inj y
    exact ⟨rfl, a, rfl, hp⟩
theorem PD.take {K : PySem.W.Frag} {H : Hp} {kvs : List (Key × V)} {S : List (List Nat)} (h : PD K H kvs S) (m : Nat) : PD K H (kvs.take m) (S.take m) := by
  refine ⟨by rw [List.length_take, List.length_take, h.1], fun i kv p a b => ?_⟩
  rw [List.getElem?_take] at a b
  split at a
  · rename_i hi
    rw [if_pos hi] at b
    exact h.2 i kv p a b
  · cases a
end Ml
namespace Ml
open PySem PySem.Spec PyProof.Rows L2
/-! ### items, paths: values of any kind -/
def nD (l : List Nat) : List PyData := l.map fun i : Nat => .int (i : Int)
end Ml
namespace Ml
open PySem PySem.Spec PyProof.Rows L2
/-! ### list == [], over the signs of a text, text * int, list[::-1], text.replace of written texts -/
def rEqNilL (K : PySem.W.Frag) : R2 := fun x y H Q => ∃ a b xs, x = .ref a ∧ y = .ref b ∧ SqL K H a xs ∧ SqL K H b [] ∧ Q (.bl (decide (xs = []))) H
theorem op_eqNilL {X : Cx} (hu : X.A.units + 64 < cLine) : OpR X (compareOp .Eq) (rEqNilL X.K) := by
  intro pins s σ H x y v u Q I r1 r2 h
  obtain ⟨a, b, xs, rfl, rfl, h1, h2, q⟩ := h
  cases r1
  cases r2
  obtain ⟨its, ri, pi, _⟩ := I.list h1
  obtain ⟨its2, ri2, pi2, _⟩ := I.list h2
  cases ri2
  have hl := ri.length
  cases xs with
  | nil =>
    cases ri
    refine SeqAt.RcAt.lists (e := fun _ => true) (plain_isl pi) (plain_isl pi2) rfl (by omega) (fun j _ h2 => absurd h2 (by simp)) X.prog X.w _ _ ?_
    exact ⟨.bl true, H, I, rfl, q⟩
  | cons x l =>
    cases ri with
    | cons r1 r2 =>
      refine SeqAt.RcAt.lists_lengths (plain_isl pi) (plain_isl pi2) (by simp) (by omega) X.prog X.w _ _ ?_
      exact ⟨.bl false, H, I, rfl, q⟩
/-- over the signs of a text -/
theorem lc_str {x : Str} {g : TG} {tt : L2.TT} {te : TE} {vs : List Nat} {σ : L2.St} {H1 : Hp} {D : Addr} {Qd : Hp → Prop} (Pv : Nat → Hp → Prop) (h0 : Pv 0 (upd H1 D (.lst [])))
    (hs : ∀ i c H, (TL.tl x)[i]? = some c → Pv i H → g (.str ⟨#[c]⟩) (wipe σ vs) H fun σ2 H2 => wipe σ2 vs = wipe σ vs ∧ tt σ2 H2 fun b H3 =>
      if b = true then te σ2 H3 fun y H4 => ∃ acc, H4 D = some (.lst acc) ∧ acc.length < sizeLine ∧ Pv (i + 1) (upd H4 D (.lst (acc ++ [y]))) else Pv (i + 1) H3) (hd : ∀ H, Pv (TL.tl x).length H → Qd H) :
    ∃ W : Nat → Nat → Hp → Prop, (∃ m, W 0 m (upd H1 D (.lst []))) ∧ ∀ i m H, W i m H →
      ((Its x).stop i H ∧ Qd H) ∨ ((Its x).go i H ∧ ∃ Nx : Hp → Prop, (∀ H', Nx H' → ∃ m', m' < m ∧ W (i + 1) m' H') ∧ ∀ y H', (Its x).yld i H y H' → g y (wipe σ vs) H' fun σ2 H2 => wipe σ2 vs = wipe σ vs ∧ tt σ2 H2 fun b H3 =>
        if b = true then te σ2 H3 fun y H4 => ∃ acc, H4 D = some (.lst acc) ∧ acc.length < sizeLine ∧ Nx (upd H4 D (.lst (acc ++ [y]))) else Nx H3) := by
  have e : (TL.tl x).length = x.cps.size := Array.length_toList
  refine ⟨fun i m H => m = (TL.tl x).length - i ∧ i ≤ (TL.tl x).length ∧ Pv i H, ⟨_, rfl, Nat.zero_le _, h0⟩, ?_⟩
  rintro i m H ⟨rfl, hi, p⟩
  by_cases hlt : i < (TL.tl x).length
  · refine .inr ⟨(by omega : i < x.cps.size), Pv (i + 1), fun H' p' => ⟨(TL.tl x).length - (i + 1), by omega, rfl, hlt, p'⟩, fun y H' z => ?_⟩
    obtain ⟨rfl, c, hc, rfl⟩ := z
    exact hs i c _ (by show x.cps.toList[i]? = _; rw [Array.getElem?_toList]; exact hc) p
  · have e2 : i = (TL.tl x).length := by omega
    subst e2
    exact .inl ⟨(by omega : x.cps.size ≤ (TL.tl x).length), hd H p⟩
theorem fold_mem (a : Array Nat) (c : Nat) : ∀ (k : Nat) (acc : Array Nat), c ∈ ((List.replicate k a).foldl (· ++ ·) acc).toList → c ∈ acc.toList ∨ c ∈ a.toList
  | 0, acc, h => .inl h
  | k + 1, acc, h => by
    rw [List.replicate_succ, List.foldl_cons] at h
    rcases fold_mem a c k _ h with z | z
    · rw [Array.toList_append] at z
      exact List.mem_append.mp z
    · exact .inr z
/-- a text times an int: how long it is -/
def rMulS : R2 := fun x y H Q => ∃ (a : Str) (k : Nat), x = .str a ∧ y = .int (k : Int) ∧ k ≤ 100000 ∧ a.length * k ≤ 16000000 ∧ ∀ z : Str, z.length ≤ a.length * k → (∀ c ∈ z.cps.toList, c ∈ a.cps.toList) → Q (.str z) H
theorem op_mulS {X : Cx} : OpR X (binaryOp .Mult) rMulS := by
  intro pins s σ H x y v u Q I rx ry h
  obtain ⟨a, k, rfl, rfl, hk, hz, q⟩ := h
  obtain ⟨t, rfl⟩ := rx
  obtain ⟨t', rfl⟩ := ry
  have hl : Builtin.Str.tooLong (a.length * ((k : Nat) : Int).toNat) = false := by
    unfold Builtin.Str.tooLong sizeLine
    rw [Int.toNat_natCast]
    exact decide_eq_false (by omega)
  have hzs : sizeLine = 16777216 := sizeLine_eq
  refine PySem.P.mul_str (by rw [decide_eq_false (show ¬ (k : Int) < -(2 ^ 63 : Int) by omega), decide_eq_false (show ¬ (k : Int) ≥ 2 ^ 63 by omega)]; rfl) (fun h1 _ => ?_) (fun _ _ => hl) ?_
  · have h1' : 1 ≤ (k : Int) := by omega
    intro z
    have : ((2 : Int) ^ 63 - 1) / (k : Int) < a.length := z
    have := Int.lt_mul_of_ediv_lt (by omega : (0 : Int) < (k : Int)) this
    have e : ((a.length * k : Nat) : Int) ≤ 16000000 := by omega
    rw [Int.natCast_mul] at e
    have c := Int.mul_comm (a.length : Int) (k : Int)
    omega
  · by_cases h1 : (k : Int) < 1
    · rw [if_pos h1]
      refine ⟨by decide, .str Str.empty, H, I.tok _, ⟨_, rfl⟩, q _ (Nat.zero_le _) (fun c hc => by simp [Str.empty] at hc)⟩
    · rw [if_neg h1]
      by_cases h2 : ((k : Int) == 1 || a.length == 0) = true
      · rw [if_pos h2]
        refine ⟨.str a, H, I, ⟨_, rfl⟩, q _ ?_ (fun c hc => hc)⟩
        rw [Bool.or_eq_true] at h2
        rcases h2 with h2 | h2
        · have : k = 1 := by have := eq_of_beq h2; omega
          rw [this]; omega
        · have := eq_of_beq h2
          omega
      · rw [if_neg h2]
        have hf := PySem.fits_reps (x := a) (k := ((k : Nat) : Int).toNat) hl
        refine ⟨hf, .str ⟨(List.replicate ((k : Nat) : Int).toNat a.cps).foldl (· ++ ·) #[]⟩, H, I.tok _, ⟨_, rfl⟩, q _ ?_ (fun c hc => ?_)⟩
        rotate_left
        · rcases fold_mem a.cps c _ #[] hc with z | z
          · simp at z
          · exact z
        rw [Int.toNat_natCast]
        show ((List.replicate k a.cps).foldl (· ++ ·) #[]).size ≤ _
        rw [PySem.size_reps]
        simp [Str.length, Nat.mul_comm]
section
variable {X : Cx}
def tRevL (K : PySem.W.Frag) (te : TE) : TE := fun σ H Q => te σ H fun x H1 => ∃ a xs, x = .ref a ∧ SqL K H1 a xs ∧ ∀ p, H1 p = none → Q (.ref p) (upd H1 p (.lst xs.reverse))
theorem pe_revL {e : Expr} {te : TE} {k : Nat} {p1 p2 p3 pos : Pos} (he : PE X e te) : PE X (.Subscript e (.Slice none none (some (.UnaryOp .USub (.Constant (.int 1) k p1) p2)) p3) pos) (tRevL X.K te) := by
  refine ⟨fun pins s σ H Q I h => ?_⟩
  refine Subscript_ (thn (he.run pins s σ H _ I h) fun v s1 ⟨x, H1, I1, r1, q1⟩ => ?_)
  obtain ⟨a, xs, ex, hx, q⟩ := q1
  subst ex
  cases r1
  have back : PO X (some (.UnaryOp .USub (.Constant (.int 1) k p1) p2)) (tPart (tUn (rU fun i => .int (-i)) (tC (.int 1)))) := po_some (pe_un un_neg pe_int)
  refine wpAny_Slice (thn (po_none.run pins s1 σ H1 (fun o H2 => o = none ∧ H2 = H1) I1 ⟨rfl, rfl⟩) fun vl s2 ⟨l, H2, I2, pl, el, e2⟩ => ?_)
  subst el e2
  refine thn (po_none.run pins s2 σ H2 (fun o H3 => o = none ∧ H3 = H2) I2 ⟨rfl, rfl⟩) fun vu s3 ⟨u, H3, I3, pu, eu, e3⟩ => ?_
  subst eu e3
  refine thn (back.run pins s3 σ H3 (fun o H4 => o = some (-1) ∧ H4 = H3) I3 ⟨1, rfl, -1, rfl, rfl, rfl⟩) fun vs s4 ⟨o, H4, I4, ps, eo, e4⟩ => ?_
  subst eo e4
  have I5 : Inv X pins σ H4 { s4 with heap := s4.heap.push { cls := .type "slice", data := .fields #[vl, vu, vs] } } := I4.kept (t' := s4.toks) fun b ob z => Heap.get?_push_of_some _ z
  obtain ⟨its, r, ht, hz⟩ := I5.list hx
  have hlen := r.length
  show wpAny (model X.prog X.w) X.A (subscriptTail e (.Slice none none (some (.UnaryOp .USub (.Constant (.int 1) k p1) p2)) p3) (.ref a) (.ref s4.heap.objs.size)) (EP X pins σ Q) X.xe { s4 with heap := s4.heap.push { cls := .type "slice", data := .fields #[vl, vu, vs] } }
  refine tail_any (ops := [.ref a, .ref s4.heap.objs.size]) ht.isList.typeIs (slot_list_getitem.lookup) ?_ (by with_unfolding_all rfl)
  refine wpAny_getItem_list_slice ht.isList (Heap.IsSliceOf.new _ vl vu vs) pl pu ps (by decide) ?_ (by rw [List.size_toArray]; omega)
  rw [PySem.W.krv_pick]
  refine ⟨.ref _, _, I5.laid (t' := s4.toks) (o := .lst xs.reverse) (fun b ob z => Heap.get?_push_of_some _ z) (Nat.le_refl _) ?_, rfl, q _ (I5.hok.fresh (Nat.le_refl _))⟩
  exact ⟨by rw [List.length_reverse]; exact hz, _, 0, r.reverse, Heap.get?_push_size _ rfl⟩
/-! a token is out -/
def PE1 (X : Cx) (e : Expr) (t : TE) : Prop := ∀ (pins : List (Addr × Obj)) (s : Shared) (σ : L2.St) (H : Hp) (Q : VK), Inv X pins σ H s → t σ H Q → wpAny (model X.prog X.w) X.A (eval e X.env) (fun v s1 => 1 ≤ s1.toks ∧ EP X pins σ Q v s1) X.xe s
def PA1 (X : Cx) (es : List Expr) (t : TA) : Prop := ∀ (pos : Pos) (pins : List (Addr × Obj)) (s : Shared) (σ : L2.St) (H : Hp) (Q : List V → Hp → Prop), Inv X pins σ H s → t σ H Q → wpAny (model X.prog X.w) X.A (spliced (backTo pos (starEach es X.env))) (fun v s1 => 1 ≤ s1.toks ∧ AP X pins σ Q v s1) X.xe s
theorem pe1_str {x : Str} {j : Nat} {p : Pos} : PE1 X (.Constant (.str x) j p) (tC (.str x)) := fun pins s σ H Q I h => Calls.Constant_str ⟨Nat.succ_le_succ (Nat.zero_le _), .str x, H, I.tok _, ⟨_, rfl⟩, h⟩
theorem pe1_op {a b : Expr} {ta tb : TE} {pos : Pos} {op : Operator} {r : R2} (ho : OpR X (binaryOp op) r) (ha : PE X a ta) (hb : PE1 X b tb) : PE1 X (.BinOp a op b pos) (tOp r ta tb) := by
  intro pins s σ H Q I h
  refine wpAny_BinOp (thn (ha.run pins s σ H _ I h) fun v s1 ⟨x, H1, I1, r1, q1⟩ => ?_)
  refine thn (hb pins s1 σ H1 _ I1 q1) fun u s2 ⟨h1, y, H2, I2, r2, q2⟩ => ?_
  exact wpAny_mono (PySem.wpAny_toks (ho pins s2 σ H2 x y v u Q I2 r1 r2 q2)) (fun v3 s3 q3 => ⟨Nat.le_trans h1 q3.1, q3.2⟩) fun _ _ z => z.2
theorem pa1_here {e : Expr} {es : List Expr} {te : TE} {ta : TA} (he : PE1 X e te) (ha : PA X es ta) (hs : starEach (e :: es) X.env = (false, eval e X.env) :: starEach es X.env := by rfl) : PA1 X (e :: es) (tCons te ta) := by
  intro pos pins s σ H Q I h
  show wpAny _ _ (spliced (backTo pos (starEach (e :: es) X.env))) _ _ _
  rw [hs]
  refine Calls.spliced_cons (wpAny_mono (he pins s σ H _ I h) (fun v s1 ⟨h1, x, H1, I1, r1, q1⟩ => ?_) fun _ _ z => z)
  refine wpAny_mono (PySem.wpAny_toks (ha.run pos pins s1 σ H1 _ I1 q1)) (fun us s2 ⟨hk, xs, H2, I2, r2, q2⟩ => ?_) fun _ _ z => z.2
  exact ⟨Nat.le_trans h1 hk, x :: xs, H2, I2, .cons r1 r2, q2⟩
theorem pa1_cons {e : Expr} {es : List Expr} {te : TE} {ta : TA} (he : PE X e te) (ha : PA1 X es ta) (hs : starEach (e :: es) X.env = (false, eval e X.env) :: starEach es X.env := by rfl) : PA1 X (e :: es) (tCons te ta) := by
  intro pos pins s σ H Q I h
  show wpAny _ _ (spliced (backTo pos (starEach (e :: es) X.env))) _ _ _
  rw [hs]
  refine Calls.spliced_cons (wpAny_mono (he.run pins s σ H _ I h) (fun v s1 ⟨x, H1, I1, r1, q1⟩ => ?_) fun _ _ z => z)
  refine wpAny_mono (ha pos pins s1 σ H1 _ I1 q1) (fun us s2 ⟨hk, xs, H2, I2, r2, q2⟩ => ?_) fun _ _ z => z
  exact ⟨hk, x :: xs, H2, I2, .cons r1 r2, q2⟩
theorem pe1_lst {es : List Expr} {ta : TA} {pos : Pos} (h : PA1 X es ta) : PE1 X (.List es pos) (tLst ta) := by
  intro pins s σ H Q I hq
  refine wpAny_List_spliced (thn (h pos pins s σ H _ I hq) fun us s1 ⟨h1, xs, H1, I1, r, z, q⟩ => ⟨by rw [← r.length]; exact z, ?_⟩)
  have hf : H1 s1.heap.objs.size = none := I1.hok.fresh (Nat.le_refl _)
  refine ⟨h1, .ref s1.heap.objs.size, upd H1 s1.heap.objs.size (.lst xs), I1.laid (t' := s1.toks) (fun b u e => Heap.get?_push_of_some _ e) (Nat.le_refl _) ?_, rfl, q _ hf⟩
  exact ⟨z, us, 0, r, Heap.get?_push_size _ rfl⟩
/-- behind a store that gave a token out -/
theorem pss_set1 {i : Nat} {x : Str} {e : Expr} {te : TE} {u : TS} {rest : List Stmt} {pos' pos : Pos} (hN : X.N.Nodup) (hi : X.N[i]? = some x) (hx : Loc X.env.scope x) (he : PE1 X e te) (h2 : PSsT X rest u) (hs : swapsWith e (some (.Name x pos')) pos.line X.env = pure false := by rfl) (hf : X.fn x = true ∨ X.env.scope.names.lookup x = some .local := by first | exact .inl rfl | exact .inr rfl | assumption) :
    PSs X (.Assign [.Name x pos'] e pos :: rest) (tSeq (tAsg te (gName i)) u) := by
  refine ⟨fun pins s σ H D I h => ?_⟩
  refine wpAny_execs_cons (wpAny_Assign_Name (thn (he pins s σ H _ I h) fun v s1 ⟨h1, y, H1, I1, r1, q1⟩ => ?_) hs)
  refine wpAny_mono (PySem.wpAny_toks (store_ok (Q := fun _ s2 => Inv X pins (σ.set i (some y)) H1 s2) I1 hN hi hx r1 (fun _ I2 => I2) hf)) (fun _ s2 q => ?_) fun _ _ z => z.2
  exact h2 pins s2 _ H1 D (Nat.le_trans h1 q.1) q.2 q1
theorem pst_set {i : Nat} {x : Str} {e : Expr} {te : TE} {pos' pos : Pos} (hN : X.N.Nodup) (hi : X.N[i]? = some x) (hx : Loc X.env.scope x) (he : PET X e te) (hs : swapsWith e (some (.Name x pos')) pos.line X.env = pure false := by rfl) (hf : X.fn x = true ∨ X.env.scope.names.lookup x = some .local := by first | exact .inl rfl | exact .inr rfl | assumption) :
    PST X (.Assign [.Name x pos'] e pos) (tAsg te (gName i)) := by
  intro pins s σ H D h0 I h
  refine wpAny_Assign_Name (thn (he pins s σ H _ h0 I h) fun v s1 ⟨y, H1, I1, r1, q1⟩ => ?_) hs
  exact store_ok I1 hN hi hx r1 (fun s2 I2 => ⟨_, H1, I2, q1⟩) hf
end
end Ml
namespace Ml
open PySem PySem.Spec PyProof.Rows L2
/-! ### how long the text of a text is -/
def Cps (x : Str) : Prop := ∀ c ∈ x.cps.toList, c < 16 ^ 8
theorem char_lt (c : Char) : c.toNat < 16 ^ 8 := by
  show c.val.toNat < 16 ^ 8
  exact Nat.lt_of_lt_of_le c.val.toNat_lt (by decide)
theorem cps_ofString (s : String) : Cps (Str.ofString s) := fun c hc => by
  rw [Str.ofString_eq_toList] at hc
  have hc' : c ∈ s.toList.map Char.toNat := by simpa using hc
  obtain ⟨x, _, rfl⟩ := List.mem_map.mp hc'
  exact char_lt x
theorem cps_app {a b : Str} (h : Cps a) (g : Cps b) : Cps (a ++ b) := fun c hc => by
  have hc' : c ∈ (a.cps ++ b.cps).toList := hc
  rw [Array.toList_append] at hc'
  rcases List.mem_append.mp hc' with z | z
  · exact h c z
  · exact g c z
theorem cps_nil : Cps Str.empty := fun c hc => by simp [Str.empty] at hc
theorem cps_join (sep : Str) (hs : Cps sep) : ∀ ts : List Str, (∀ t ∈ ts, Cps t) → Cps (Str.join sep ts)
  | [], _ => cps_nil
  | [x], h => h x List.mem_cons_self
  | x :: y :: r, h => cps_app (cps_app (h x List.mem_cons_self) hs) (cps_join sep hs (y :: r) fun t ht => h t (List.mem_cons_of_mem _ ht))
/-! ### repr where an error is handled -/
end Ml
namespace Ml
open PySem PySem.Spec PyProof.Rows L2
/-! ### texts that are made: how long, of which signs -/
def GoodS (L : Nat) (z : Str) : Prop := z.length ≤ L ∧ Cps z
def GoodL (M : Nat) (ws : List Str) : Prop := mS ws ≤ M ∧ ∀ w ∈ ws, Cps w
theorem GoodS.mono {L L' : Nat} {z : Str} (h : GoodS L z) (e : L ≤ L') : GoodS L' z := ⟨Nat.le_trans h.1 e, h.2⟩
theorem GoodL.mono {L L' : Nat} {z : List Str} (h : GoodL L z) (e : L ≤ L') : GoodL L' z := ⟨Nat.le_trans h.1 e, h.2⟩
theorem good_lit (s : String) {L : Nat} (h : (Str.ofString s).length ≤ L) : GoodS L (Str.ofString s) := ⟨h, cps_ofString s⟩
theorem good_app {a b : Nat} {x y : Str} (h : GoodS a x) (g : GoodS b y) : GoodS (a + b) (x ++ y) := by
  refine ⟨?_, cps_app h.2 g.2⟩
  have h1 := h.1
  have g1 := g.1
  rw [TL.len_tl, TL.tl_append, List.length_append, ← TL.len_tl, ← TL.len_tl]
  omega
theorem spl_sub (S : List Nat) : ∀ (l : List Nat) (k : Nat) (acc : List Nat), ∀ p ∈ TL.spl S k acc l, ∀ c ∈ p, c ∈ acc ∨ c ∈ l
  | [], k, acc, p, hp, c, hc => by
    rw [TL.spl_nil] at hp
    rw [List.mem_singleton.mp hp] at hc
    exact .inl hc
  | a :: r, 0, acc, p, hp, c, hc => by
    unfold TL.spl at hp
    split at hp
    · rcases List.mem_cons.mp hp with rfl | hp
      · exact .inl hc
      · rcases spl_sub S r _ _ p hp c hc with z | z
        · exact absurd z List.not_mem_nil
        · exact .inr (List.mem_cons_of_mem _ z)
    · rcases spl_sub S r _ _ p hp c hc with z | z
      · rcases List.mem_append.mp z with z | z
        · exact .inl z
        · rw [List.mem_singleton.mp z]
          exact .inr List.mem_cons_self
      · exact .inr (List.mem_cons_of_mem _ z)
  | a :: r, k + 1, acc, p, hp, c, hc => by
    unfold TL.spl at hp
    rcases spl_sub S r _ _ p hp c hc with z | z
    · exact .inl z
    · exact .inr (List.mem_cons_of_mem _ z)
theorem good_split {s y : Str} {c L : Nat} (h : GoodS L s) (ey : TL.tl y = [c]) (hk : y.cps.all (· < 256) = true) : GoodL (L + 1) (Txt.split s y) ∧ 1 ≤ (Txt.split s y).length := by
  obtain ⟨m1, m2⟩ := split_ms (s := s) ey hk
  refine ⟨⟨Nat.le_trans m1 (Nat.succ_le_succ h.1), fun w hw d hd => ?_⟩, List.length_pos_iff.mpr m2⟩
  have e : (Txt.split s y).map TL.tl = TL.spl [c] 0 [] (TL.tl s) := by
    rw [TL.split_spl _ y (by rw [ey]; simp) (TL.kind_ok hk), ey]
  have hm : TL.tl w ∈ (Txt.split s y).map TL.tl := List.mem_map_of_mem hw
  rw [e] at hm
  rcases spl_sub _ _ _ _ _ hm d hd with z | z
  · exact absurd z List.not_mem_nil
  · exact h.2 d z
theorem good_join {y : Str} {c M : Nat} {ws : List Str} (ey : TL.tl y = [c]) (hc : c < 256) (h : GoodL M ws) : GoodS M (Txt.join y ws) := by
  rw [TL.join_eq]
  refine ⟨Nat.le_trans (join_ms ey ws) h.1, cps_join _ (fun d hd => ?_) _ h.2⟩
  have hd : d ∈ TL.tl y := hd
  rw [ey] at hd
  rw [List.mem_singleton.mp hd]
  exact Nat.lt_trans hc (by decide)
theorem GoodL.app {M N : Nat} {a b : List Str} (h : GoodL M a) (g : GoodL N b) : GoodL (M + N) (a ++ b) := by
  refine ⟨by rw [mS_app]; exact Nat.add_le_add h.1 g.1, fun w hw => ?_⟩
  rcases List.mem_append.mp hw with z | z
  · exact h.2 w z
  · exact g.2 w z
theorem GoodL.cut {M : Nat} {ws : List Str} (h : GoodL M ws) (a b : Nat) : GoodL M ((ws.drop a).take b) := by
  refine ⟨?_, fun w hw => h.2 w (List.mem_of_mem_drop (List.mem_of_mem_take hw))⟩
  have h1 := mS_take a ws
  have h2 := mS_take b (ws.drop a)
  have h3 := h.1
  omega
theorem GoodL.rev {M : Nat} {ws : List Str} (h : GoodL M ws) : GoodL M ws.reverse := ⟨by rw [mS_rev]; exact h.1, fun w hw => h.2 w (List.mem_reverse.mp hw)⟩
theorem GoodL.mem {M : Nat} {ws : List Str} (h : GoodL M ws) {w : Str} (hw : w ∈ ws) : GoodS M w := ⟨by have := mS_mem hw; have := h.1; omega, h.2 w hw⟩
theorem cut_strs (ws : List Str) (lo hi : Option Int) : ∃ a b, cutV (ws.map V.str) lo hi = ((ws.drop a).take b).map V.str := by
  obtain ⟨a, b, e⟩ := cut_any (ws.map V.str) lo hi
  exact ⟨a, b, by rw [e, List.map_take, List.map_drop]⟩
theorem GoodL.rep {M : Nat} {ws : List Str} (h : GoodL M ws) : ∀ k : Nat, GoodL (k * M) (List.replicate k ws).flatten
  | 0 => ⟨by simp [mS_nil], fun w hw => by simp at hw⟩
  | k + 1 => by
    rw [List.replicate_succ, List.flatten_cons, Nat.succ_mul, Nat.add_comm]
    exact h.app (h.rep k)
theorem rep_map (ws : List Str) (k : Nat) : (List.replicate k (ws.map V.str)).flatten = ((List.replicate k ws).flatten).map V.str := by
  rw [List.map_flatten, List.map_replicate]
theorem good_cutS {L : Nat} {z : Str} (h : GoodS L z) (lo hi : Option Int) : GoodS L (cutS z lo hi) := by
  refine ⟨Nat.le_trans (cutS_length z lo hi) h.1, fun c hc => h.2 c ?_⟩
  unfold cutS at hc
  have hc : c ∈ ((z.cps.toList.drop (HT.sIx z.length 0 lo)).take (HT.sIx z.length z.length hi - HT.sIx z.length 0 lo)).toArray.toList := hc
  rw [List.toList_toArray] at hc
  exact List.mem_of_mem_drop (List.mem_of_mem_take hc)
theorem repl_sub (y z : List Nat) : ∀ (l : List Nat) (k : Nat), ∀ c ∈ StrLaws.replS y z k l, c ∈ z ∨ c ∈ l
  | [], k, c, hc => by
    unfold StrLaws.replS at hc
    exact absurd hc List.not_mem_nil
  | a :: r, 0, c, hc => by
    unfold StrLaws.replS at hc
    split at hc
    · rcases List.mem_append.mp hc with hc | hc
      · exact .inl hc
      · rcases repl_sub y z r _ c hc with g | g
        · exact .inl g
        · exact .inr (List.mem_cons_of_mem _ g)
    · rcases List.mem_cons.mp hc with rfl | hc
      · exact .inr List.mem_cons_self
      · rcases repl_sub y z r _ c hc with g | g
        · exact .inl g
        · exact .inr (List.mem_cons_of_mem _ g)
  | a :: r, k + 1, c, hc => by
    unfold StrLaws.replS at hc
    rcases repl_sub y z r _ c hc with g | g
    · exact .inl g
    · exact .inr (List.mem_cons_of_mem _ g)
theorem good_repl {L M : Nat} {x y z : Str} (hy : 1 ≤ y.length) (h : GoodS L x) (g : GoodS M z) : GoodS (L + (L + 1) * M) (Txt.replace x y z) := by
  refine ⟨?_, fun c hc => ?_⟩
  · refine Nat.le_trans (TK.replace_len x y z) ?_
    exact Nat.add_le_add h.1 (Nat.mul_le_mul (Nat.succ_le_succ h.1) g.1)
  · rw [StrLaws.replace_list hy] at hc
    rcases repl_sub _ _ _ _ c hc with e | e
    · exact g.2 c e
    · exact h.2 c e
theorem good_wt {L : Nat} {z : Str} (h : GoodS L z) : wt (.str z) ≤ 10 * L + 2 := by
  have h1 := StrLaws.reprText_len z h.2
  have h2 := h.1
  show (reprText z).length ≤ _
  omega
theorem reprChar_pos (q c : Nat) : 1 ≤ (Builtin.Str.reprChar q c).length := by
  unfold Builtin.Str.reprChar
  dsimp only
  split
  · exact (by decide : 1 ≤ 2)
  split
  · exact (by decide : 1 ≤ 2)
  split
  · exact (by decide : 1 ≤ 2)
  split
  · exact (by decide : 1 ≤ 2)
  split
  · exact Nat.le_refl 1
  split
  · simp
  split
  · simp
  · simp
theorem fold_repr_ge (q : Nat) : ∀ (l : List Nat) (acc : Array Nat), acc.size + l.length ≤ (l.foldl (fun out c => out ++ (Builtin.Str.reprChar q c).toArray) acc).size
  | [], acc => Nat.le_refl _
  | c :: r, acc => by
    have ih := fold_repr_ge q r (acc ++ (Builtin.Str.reprChar q c).toArray)
    have := reprChar_pos q c
    rw [List.foldl_cons, List.length_cons]
    rw [Array.size_append] at ih
    have e : (Builtin.Str.reprChar q c).toArray.size = (Builtin.Str.reprChar q c).length := List.size_toArray ..
    omega
theorem len_wt (z : Str) : z.length ≤ wt (.str z) := by
  show z.cps.size ≤ (reprText z).cps.size
  unfold reprText
  show z.cps.size ≤ ((z.cps.foldl (fun out c => out ++ (Builtin.Str.reprChar (reprQuote z) c).toArray) #[reprQuote z]).push (reprQuote z)).size
  rw [Array.size_push, ← Array.foldl_toList]
  have := fold_repr_ge (reprQuote z) z.cps.toList #[reprQuote z]
  rw [Array.length_toList] at this
  omega
theorem mS_sum : ∀ ws : List Str, (ws.map (·.length)).sum ≤ mS ws
  | [] => Nat.le_refl _
  | w :: ws => by
    rw [mS_cons, List.map_cons, List.sum_cons]
    have := mS_sum ws
    omega
/-! ### readings that yield such texts and lists of them -/
def GS (L : Nat) : Hp → V → Prop := fun _ v => ∃ z, v = .str z ∧ GoodS L z
def GLq (d r : Addr) (M lo : Nat) : Hp → V → Prop := fun H v => ∃ (p : Addr) (ws : List Str), v = .ref p ∧ H p = some (.lst (ws.map V.str)) ∧ p ≠ d ∧ p ≠ r ∧ GoodL M ws ∧ lo ≤ ws.length
def GInt (lo N : Int) : Hp → V → Prop := fun _ v => ∃ i : Int, v = .int i ∧ lo ≤ i ∧ i ≤ N
section
variable {K : PySem.W.Frag} {d c r : Addr} {J : L2.St → Hp → Prop} {L B k W m B' k' W' m' k1 k2 M N lo M1 M2 lo1 lo2 : Nat} {G : Hp → V → Prop} {te te' : TE} {ta : TA} {tl th : TO}
theorem sta_gs : Sta d c r (GS L) := fun _ _ _ _ _ _ h => h
theorem sta_gint {lo N : Int} : Sta d c r (GInt lo N) := fun _ _ _ _ _ _ h => h
theorem sta_glq : Sta d c r (GLq d r M lo) := fun _ _ _ _ _ e h => by
  obtain ⟨p, ws, rfl, h1, h2, h3, h4⟩ := h
  exact ⟨p, ws, rfl, e _ _ h1 h2 h3, h2, h3, h4⟩
theorem GLq.same {H H' : Hp} {v : V} (h : GLq d r M lo H v) (e : Sm H H') : GLq d r M lo H' v := by
  obtain ⟨p, ws, rfl, h1, h4⟩ := h
  exact ⟨p, ws, rfl, e _ _ h1, h4⟩
theorem ge_str {s : String} (h : (Str.ofString s).length ≤ L) {L' : Nat} : GE d c r J L' 0 (GS L) (tC (.str (Str.ofString s))) := fun n σ H Q hn D j q => q _ H (Kp.refl d r H) D j ⟨_, rfl, good_lit s h⟩
theorem ge_glm (h : GE d c r J B k (GLq d r M1 lo1) te) (e : M1 ≤ M2 := by decide) (e2 : lo2 ≤ lo1 := by decide) : GE d c r J B k (GLq d r M2 lo2) te := h.mono (Nat.le_refl _) fun _ _ ⟨p, ws, z, h1, h2, h3, h4, h5⟩ => ⟨p, ws, z, h1, h2, h3, h4.mono e, Nat.le_trans e2 h5⟩
/-- [text, ..] -/
theorem strs_of {H : Hp} : ∀ {vs : List V}, (∀ v ∈ vs, GS L H v) → ∃ ws : List Str, vs = ws.map V.str ∧ GoodL (vs.length * (L + 1)) ws
  | [], _ => ⟨[], rfl, by rw [mS_nil]; exact Nat.zero_le _, fun w hw => by simp at hw⟩
  | v :: vs, h => by
    obtain ⟨ws, e, g⟩ := strs_of (vs := vs) fun u hu => h u (List.mem_cons_of_mem _ hu)
    obtain ⟨z, rfl, gz⟩ := h v List.mem_cons_self
    refine ⟨z :: ws, by rw [e]; rfl, ?_, fun w hw => ?_⟩
    · rw [mS_cons, List.length_cons, Nat.succ_mul]
      have h1 := gz.1
      have h2 := g.1
      omega
    · rcases List.mem_cons.mp hw with rfl | hw
      · exact gz.2
      · exact g.2 w hw
theorem ge_strs (hJ : StaJ d c r J) {T : Nat} (h : GA d c r J T k m (GS L) ta) (hm : m ≤ 1000 := by decide) : GE d c r J T k (GLq d r (m * (L + 1)) m) (tLst ta) := fun n σ H Q hn D j q =>
  h n σ H _ hn D j fun vs H1 a1 D1 j1 l1 g1 => ⟨by rw [l1]; exact Nat.le_trans hm (by decide), fun p hp => by
    obtain ⟨ws, rfl, g⟩ := strs_of g1
    have s1 : Sm H1 (upd H1 p (.lst (ws.map V.str))) := Sm.new hp
    rw [List.length_map] at l1 g
    rw [l1] at g
    exact q _ _ (a1.trans s1.kp) (D1.same s1) (hJ _ _ _ _ D1 s1.kp j1) ⟨p, ws, rfl, upd_same, (D1.ne hp).1, (D1.ne hp).2.2, g, by omega⟩⟩
theorem ge_catL (hJ : StaJ d c r J) {T : Nat} (h1 : GE d c r J T k1 (GLq d r M1 lo1) te) (h2 : GE d c r J T k2 (GLq d r M2 lo2) te') (hm : M1 + M2 ≤ 16000000 := by decide) : GE d c r J T (k1 + k2) (GLq d r (M1 + M2) (lo1 + lo2)) (tOp rCat te te') := fun n σ H Q hn D j q =>
  h1 n σ H _ (by omega) D j fun v H1 a1 D1 j1 g1 => h2 _ σ H1 _ (by omega) D1 j1 fun u H2 a2 D2 j2 g2 => by
    obtain ⟨p1, ws1, rfl, e1, b1, b2, b3, b4⟩ := sta_glq (c := c) _ _ _ _ D1 a2 g1
    obtain ⟨p2, ws2, rfl, e2, c1, c2, c3, c4⟩ := g2
    refine ⟨p1, p2, _, _, rfl, rfl, e1, e2, ?_, fun p hp => ?_⟩
    · rw [List.length_map, List.length_map]
      have x1 := mS_len ws1
      have x2 := mS_len ws2
      have x3 := b3.1
      have x4 := c3.1
      exact big16 (by omega)
    · rw [← List.map_append]
      have s1 : Sm H2 (upd H2 p (.lst ((ws1 ++ ws2).map V.str))) := Sm.new hp
      refine q _ _ (a1.trans (a2.trans s1.kp)) (by rw [← Nat.add_assoc]; exact D2.same s1) (hJ _ _ _ _ D2 s1.kp j2) ⟨p, _, rfl, upd_same, (D2.ne hp).1, (D2.ne hp).2.2, b3.app c3, by rw [List.length_append]; omega⟩
theorem ge_cutL (hJ : StaJ d c r J) {T : Nat} (h : GE d c r J T k (GLq d r M lo) te) (hl : GO d c r J tl) (hh : GO d c r J th) : GE d c r J T k (GLq d r M 0) (L2.tSl (rSlL K) te tl th) := fun n σ H Q hn D j q =>
  h n σ H _ hn D j fun v H1 a1 D1 j1 g1 => hl _ σ H1 _ D1 j1 fun lo' => hh _ σ H1 _ D1 j1 fun hi => by
    obtain ⟨p, ws, rfl, e, b1, b2, b3, b4⟩ := g1
    refine ⟨p, _, rfl, SqL.of e, fun p2 hp => ?_⟩
    obtain ⟨u, w, ec⟩ := cut_strs ws lo' hi
    rw [ec]
    have s2 : Sm H1 (upd H1 p2 (.lst (((ws.drop u).take w).map V.str))) := Sm.new hp
    exact q _ _ (a1.trans s2.kp) (D1.same s2) (hJ _ _ _ _ D1 s2.kp j1) ⟨p2, _, rfl, upd_same, (D1.ne hp).1, (D1.ne hp).2.2, b3.cut u w, Nat.zero_le _⟩
theorem ge_revL (hJ : StaJ d c r J) {T : Nat} (h : GE d c r J T k (GLq d r M lo) te) : GE d c r J T k (GLq d r M lo) (tRevL K te) := fun n σ H Q hn D j q =>
  h n σ H _ hn D j fun v H1 a1 D1 j1 g1 => by
    obtain ⟨p, ws, rfl, e, b1, b2, b3, b4⟩ := g1
    refine ⟨p, _, rfl, SqL.of e, fun p2 hp => ?_⟩
    rw [← List.map_reverse]
    have s2 : Sm H1 (upd H1 p2 (.lst (ws.reverse.map V.str))) := Sm.new hp
    exact q _ _ (a1.trans s2.kp) (D1.same s2) (hJ _ _ _ _ D1 s2.kp j1) ⟨p2, _, rfl, upd_same, (D1.ne hp).1, (D1.ne hp).2.2, b3.rev, by rw [List.length_reverse]; exact b4⟩
theorem ge_repL2 (hJ : StaJ d c r J) {T : Nat} (h : GE d c r J T k (GLq d r M lo) te) (hm : 2 * M ≤ 16000000 := by decide) : GE d c r J T k (GLq d r (2 * M) 0) (tOp rRep te (tC (.int 2))) := fun n σ H Q hn D j q =>
  h n σ H _ hn D j fun v H1 a1 D1 j1 g1 => by
    obtain ⟨p, ws, rfl, e, b1, b2, b3, b4⟩ := g1
    refine ⟨p, 2, _, rfl, rfl, e, by decide, by decide, ?_, fun p2 hp => ?_⟩
    · rw [List.length_map]
      have x1 := mS_len ws
      have x2 := b3.1
      exact big16 (n := ws.length * 2) (by omega)
    · rw [show ((2 : Int).toNat) = 2 from rfl, rep_map]
      have s2 : Sm H1 (upd H1 p2 (.lst (((List.replicate 2 ws).flatten).map V.str))) := Sm.new hp
      exact q _ _ (a1.trans s2.kp) (D1.same s2) (hJ _ _ _ _ D1 s2.kp j1) ⟨p2, _, rfl, upd_same, (D1.ne hp).1, (D1.ne hp).2.2, b3.rep 2, Nat.zero_le _⟩
theorem ge_joinS {T cc : Nat} {y : Str} (ey : TL.tl y = [cc]) (hc : cc < 256) (h : GE d c r J T k (GLq d r M lo) te) (hm : 2 * M ≤ 16000000) : GE d c r J T k (GS M) (tM1 (fun x xs H Q => ∃ a p, ∃ ys : List Str, x = .str a ∧ xs = [.ref p] ∧ (SqL K H p (ys.map V.str) ∨ SqT K H p (ys.map V.str)) ∧
      (ys.map (·.length)).sum + ys.length * a.length ≤ 16777216 ∧ Q (.str (Txt.join a ys)) H) (tC (.str y)) te) := fun n σ H Q hn D j q =>
  ⟨⟨_, rfl⟩, h n σ H _ hn D j fun v H1 a1 D1 j1 g1 => by
    obtain ⟨p, ws, rfl, e, b1, b2, b3, b4⟩ := g1
    refine ⟨y, p, ws, rfl, rfl, .inl (SqL.of e), ?_, q _ H1 a1 D1 j1 ⟨_, rfl, good_join ey hc b3⟩⟩
    have yl : y.length = 1 := by rw [TL.len_tl, ey]; rfl
    have x1 := mS_len ws
    have x2 := b3.1
    have x3 : (ws.map (·.length)).sum ≤ mS ws := by
      clear e b3 b4 x1 x2
      induction ws with
      | nil => exact Nat.le_refl _
      | cons w ws ih =>
        rw [mS_cons, List.map_cons, List.sum_cons]
        omega
    rw [yl]
    omega⟩
theorem ge_addS {T : Nat} (h1 : GE d c r J T k1 (GS M1) te) (h2 : GE d c r J T k2 (GS M2) te') (hm : M1 + M2 ≤ 16000000 := by decide) : GE d c r J T (k1 + k2) (GS (M1 + M2)) (tOp (fun x y H Q => ∃ i j, x = .str i ∧ y = .str j ∧ i.length + j.length ≤ sizeLine ∧ Q (.str (i ++ j)) H) te te') := fun n σ H Q hn D j q =>
  h1 n σ H _ (by omega) D j fun v H1 a1 D1 j1 ⟨x, ex, g1⟩ => h2 _ σ H1 _ (by omega) D1 j1 fun u H2 a2 D2 j2 ⟨y, ey, g2⟩ => by
    have x1 := g1.1
    have x2 := g2.1
    exact ⟨x, y, ex, ey, big16 (by omega), q _ _ (a1.trans a2) (by rw [← Nat.add_assoc]; exact D2) j2 ⟨_, rfl, good_app g1 g2⟩⟩
theorem ge_cutS {T : Nat} (h : GE d c r J T k (GS M) te) (hl : GO d c r J tl) (hh : GO d c r J th) (hm : M ≤ 16000000 := by decide) : GE d c r J T k (GS M) (L2.tSl rSlS te tl th) := fun n σ H Q hn D j q =>
  h n σ H _ hn D j fun v H1 a1 D1 j1 ⟨x, ex, g1⟩ => hl _ σ H1 _ D1 j1 fun lo' => hh _ σ H1 _ D1 j1 fun hi =>
    ⟨x, ex, big16 (Nat.le_trans g1.1 hm), q _ _ a1 D1 j1 ⟨_, rfl, good_cutS g1 _ _⟩⟩
theorem ge_replS {T : Nat} {y z : Str} (hy : 1 ≤ y.length) (hz : GoodS N z) (h : GE d c r J T k (GS M) te) (hm : M + (M + 1) * N ≤ 16000000 := by decide) : GE d c r J T k (GS (M + (M + 1) * N)) (CwR.tReplC te y z) := fun n σ H Q hn D j q =>
  h n σ H _ hn D j fun v H1 a1 D1 j1 ⟨x, ex, g1⟩ => by
    refine ⟨x, ex, ?_, q _ _ a1 D1 j1 ⟨_, rfl, good_repl hy g1 hz⟩⟩
    have x1 : (x.length + 1) * z.length ≤ (M + 1) * N := Nat.mul_le_mul (Nat.succ_le_succ g1.1) hz.1
    have x2 := g1.1
    omega
/-- two names at once -/
theorem sq_par {G1 G2 : Hp → V → Prop} (hG : Sta d c r G1) (h1 : GE d c r J L k1 G1 te) (h2 : GE d c r J L k2 G2 te') {n i i' : Nat} {σ : L2.St} {H : Hp} {u : TS} {D : Ends} (hn : n + (k1 + k2) ≤ L) (hD : Dr H d c r n) (j : J σ H)
    (q : ∀ v w H', Kp d r H H' → Dr H' d c r (n + (k1 + k2)) → J σ H' → G1 H' v → G2 H' w → u D ((σ.set i (some v)).set i' (some w)) H') : tSeq (tPar i i' (tCons te (tCons te' tNil))) u D σ H :=
  h1 n σ H _ (by omega) hD j fun v H1 a1 D1 j1 g1 => h2 _ σ H1 _ (by omega) D1 j1 fun w H2 a2 D2 j2 g2 => ⟨v, w, rfl, q v w H2 (a1.trans a2) (by rw [← Nat.add_assoc]; exact D2) j2 (hG _ _ _ _ D1 a2 g1) g2⟩
/-- the state, by its places -/
def JS (d r : Addr) (l : List (Nat × V)) (hs : List (Addr × List Str)) (σ : L2.St) (H : Hp) : Prop := (∀ p ∈ l, σ[p.1]? = some (some p.2)) ∧ ∀ p ∈ hs, H p.1 = some (.lst (p.2.map V.str)) ∧ p.1 ≠ d ∧ p.1 ≠ r
theorem sta_js {l : List (Nat × V)} {hs : List (Addr × List Str)} : StaJ d c r (JS d r l hs) := fun _ _ _ _ _ e h => ⟨h.1, fun p hp => ⟨e _ _ (h.2 p hp).1 (h.2 p hp).2.1 (h.2 p hp).2.2, (h.2 p hp).2⟩⟩
theorem js_at {l : List (Nat × V)} {hs : List (Addr × List Str)} {i : Nat} {v : V} (h : (i, v) ∈ l) {σ : L2.St} {H : Hp} (j : JS d r l hs σ H) : σ[i]? = some (some v) := j.1 (i, v) h
theorem ge_ref {T i : Nat} {l : List (Nat × V)} {hs : List (Addr × List Str)} {p : Addr} {ws : List Str} (h : (i, V.ref p) ∈ l) (g : (p, ws) ∈ hs) (b : GoodL M ws) (e : lo ≤ ws.length) : GE d c r (JS d r l hs) T 0 (GLq d r M lo) (tVar i) := fun n σ H Q hn D j q => ⟨_, j.1 _ h, q _ H (Kp.refl d r H) D j ⟨p, ws, rfl, (j.2 _ g).1, (j.2 _ g).2.1, (j.2 _ g).2.2, b, e⟩⟩
theorem ge_sv {T i : Nat} {l : List (Nat × V)} {hs : List (Addr × List Str)} {z : Str} (h : (i, V.str z) ∈ l) (b : GoodS L z) : GE d c r (JS d r l hs) T 0 (GS L) (tVar i) := fun n σ H Q hn D j q => ⟨_, j.1 _ h, q _ H (Kp.refl d r H) D j ⟨z, rfl, b⟩⟩
theorem go_iv {i : Nat} {l : List (Nat × V)} {hs : List (Addr × List Str)} {x : Int} (h : (i, V.int x) ∈ l) : GO d c r (JS d r l hs) (tPart (tVar i)) := go_var fun σ H j => ⟨x, j.1 _ h⟩
theorem go_ivp {i : Nat} {l : List (Nat × V)} {hs : List (Addr × List Str)} {x : Int} (h : (i, V.int x) ∈ l) : GO d c r (JS d r l hs) (tPart (tOp (rI0 fun i j => .int (i + j)) (tVar i) (tC (.int 1)))) := fun _ σ H Q _ j q => ⟨_, j.1 _ h, x, 1, rfl, rfl, _, rfl, q _⟩
end
end Ml
namespace Ml
open PySem PySem.Spec PyProof.Rows L2
section
variable {K : PySem.W.Frag} {d c r : Addr} {J : L2.St → Hp → Prop} {L k m k1 k2 M N lo : Nat} {G : Hp → V → Prop} {te te' : TE} {ta : TA}
theorem js_set {l : List (Nat × V)} {hs : List (Addr × List Str)} {σ : L2.St} {H : Hp} {i : Nat} {v : V} (j : JS d r l hs σ H) (hi : Nat.ble (i + 1) σ.length = true) (hn : ∀ p ∈ l, p.1 ≠ i) : JS d r ((i, v) :: l) hs (σ.set i (some v)) H := by
  refine ⟨fun p hp => ?_, j.2⟩
  rcases List.mem_cons.mp hp with rfl | hp
  · have := Nat.le_of_ble_eq_true hi
    show (σ.set i (some v))[i]? = _
    rw [List.getElem?_set_self (by omega)]
  · rw [List.getElem?_set_ne (fun e => hn p hp e.symm)]
    exact j.1 p hp
theorem js_add {l : List (Nat × V)} {hs : List (Addr × List Str)} {σ : L2.St} {H : Hp} {p : Addr} {ws : List Str} (j : JS d r l hs σ H) (h : H p = some (.lst (ws.map V.str))) (h1 : p ≠ d) (h2 : p ≠ r) : JS d r l ((p, ws) :: hs) σ H := by
  refine ⟨j.1, fun q hq => ?_⟩
  rcases List.mem_cons.mp hq with rfl | hq
  · exact ⟨h, h1, h2⟩
  · exact j.2 q hq
theorem js_sub {l l' : List (Nat × V)} {hs : List (Addr × List Str)} {σ : L2.St} {H : Hp} (j : JS d r l hs σ H) (h : ∀ p ∈ l', p ∈ l) : JS d r l' hs σ H := ⟨fun p hp => j.1 p (h p hp), j.2⟩
theorem ge_mulS {T : Nat} {a : Str} {q : Nat} (h : GoodS M a) (hq : q ≤ 100000) (hm : M * q ≤ 16000000) : GE d c r J T 0 (GS (M * q)) (tOp rMulS (tC (.str a)) (tC (.int (q : Int)))) := fun n σ H Q hn D j k => by
  have e : a.length * q ≤ M * q := Nat.mul_le_mul_right _ h.1
  exact ⟨a, q, rfl, rfl, hq, by omega, fun z hz hc => k _ H (Kp.refl d r H) D j ⟨z, rfl, by omega, fun c hcz => h.2 c (hc c hcz)⟩⟩
theorem ge_split {T cc : Nat} {y : Str} (ey : TL.tl y = [cc]) (hk : y.cps.all (· < 256) = true) (hJ : StaJ d c r J) (h : GE d c r J T k (GS L) te) (hL : L ≤ 16000000 := by decide) :
    GE d c r J T k (GLq d r (L + 1) 1) (tM1 (fun x xs H Q => ∃ a b, x = .str a ∧ xs = [.str b] ∧ (b.length == 0) = false ∧ a.length + 2 ≤ sizeLine ∧ rNewStrs (Txt.split a b) H Q) te (tC (.str y))) := fun n σ H Q hn D j q =>
  h n σ H _ hn D j fun v H1 a1 D1 j1 ⟨x, ex, g⟩ => by
    have yl : y.length = 1 := by rw [TL.len_tl, ey]; rfl
    have x1 := g.1
    refine ⟨⟨x, ex⟩, x, y, ex, rfl, by rw [yl]; rfl, by rw [sizeLine_eq]; omega, fun p hp => ?_⟩
    have s1 : Sm H1 (upd H1 p (.lst ((Txt.split x y).map V.str))) := Sm.new hp
    obtain ⟨g1, g2⟩ := good_split g ey hk
    exact q _ _ (a1.trans s1.kp) (D1.same s1) (hJ _ _ _ _ D1 s1.kp j1) ⟨p, _, rfl, upd_same, (D1.ne hp).1, (D1.ne hp).2.2, g1, g2⟩
/-- one of written things, by a place -/
theorem ge_ixP {T i : Nat} {l : List (Nat × V)} {hs : List (Addr × List Str)} {p : Addr} {ws : List Str} {at_ : Nat} {ti : TE} (h : (i, V.ref p) ∈ l) (g : (p, ws) ∈ hs) (b : GoodL M ws) (ha : at_ < ws.length) (hi : ∀ σ H (Q : VK), JS d r l hs σ H → Q (.int (at_ : Int)) H → ti σ H Q) : GE d c r (JS d r l hs) T 0 (GS M) (tOp (rIxL K) (tVar i) ti) := fun n σ H Q hn D j q =>
  ⟨_, j.1 _ h, hi σ H _ j ⟨p, _, (at_ : Int), _, rfl, rfl, SqL.of (j.2 _ g).1, atI_nat (j := at_) (by rw [List.getElem?_map, List.getElem?_eq_getElem ha]; rfl), q _ H (Kp.refl d r H) D j ⟨_, rfl, b.mem (List.getElem_mem ha)⟩⟩⟩
end
end Ml
namespace Ml
open PySem PySem.Spec PyProof.Rows L2
/-! ### isinstance of a caught error that holds fields -/
theorem kitD {K : PySem.W.Frag} {D a : Addr} {oe : Obj} {od : Option Obj} (C : ExcC K D) : PySem.W.KitX K (.ref a) (.ref D) (fun h => PySem.W.InstAt h a oe D od) :=
  PySem.W.kitx_exc (by obtain ⟨cd, hc, _⟩ := PySem.W.any_some C.hd; rw [hc]; rfl) C.hg C.hk C.hs C.ha C.hn C.ht C.hm
theorem inst_at {X : Cx} {a D dd : Addr} {oe : Obj} {pn pins : List (Addr × Obj)} {σ : L2.St} {H : Hp} {s : Shared} {fs : List (Str × V)} (hz : Zc (.ref D) (some dd) oe) (hf : ∃ vs, oe.data = .fields vs) (I : Inv (X.suite a ((a, oe) :: pn)) pins σ H s) (ea : H dd = some (.xd fs)) : ∃ od, PySem.W.InstAt s.heap a oe D (some od) := by
  obtain ⟨ha, _⟩ := I.pin (a, oe) (List.mem_append_left _ List.mem_cons_self)
  obtain ⟨vs, hd⟩ := hf
  have hx : ObjOk X.prog X.w H s.heap dd (.xd fs) := I.hok dd _ ea
  obtain ⟨mA, hns, hr⟩ := hx
  obtain ⟨od, ho, hl⟩ := lookIn_ns hns
  exact ⟨od, ha, hz.1, by unfold PySem.W.notCls; rw [hd] <;> rfl, by rw [hz.2]; exact ho⟩
def rIsD (K : PySem.W.Frag) (D a : Addr) (cls : Value) (d : Option Addr) : List V → Hp → VK → Prop := fun xs H Q => ∃ (c : V) (cv : Value) (b : Bool) (dd : Addr) (fs : List (Str × V)), xs = [.ref a, c] ∧ cls = .ref D ∧ d = some dd ∧ H dd = some (.xd fs) ∧ ClsV c cv ∧ PySem.W.kitOne K (.ref D) cv = some b ∧ Q (.bl b) H
theorem call_isD {X : Cx} {a D : Addr} {cls : Value} {d : Option Addr} {oe : Obj} {pn : List (Addr × Obj)} (C : ExcC X.K D) (hz : Zc cls d oe) (hf : ∃ vs, oe.data = .fields vs) : CallR (X.suite a ((a, oe) :: pn)) (.builtin "isinstance") (rIsD X.K D a cls d) := by
  intro pins s σ H xs us Q I r h
  obtain ⟨c, cv, b, dd, fs, rfl, rfl, rfl, ea, hcv, e, q⟩ := h
  obtain ⟨u1, u2, rfl, r1, r2⟩ := vals2 r
  cases (show u1 = Value.ref a from r1)
  have e2 := hcv.eq r2
  subst e2
  obtain ⟨od, J⟩ := inst_at hz hf I ea
  exact PySem.W.kia_one (kitD C) I.kIn J e (fun z => nomatch z) fun tk => ⟨.bl b, H, I.tok tk, rfl, q⟩
def rIsDT (K : PySem.W.Frag) (D a : Addr) (cls : Value) (d : Option Addr) : List V → Hp → VK → Prop := fun xs H Q => ∃ (tp : Addr) (cs : List V) (ws : List Value) (b : Bool) (dd : Addr) (fs : List (Str × V)), xs = [.ref a, .ref tp] ∧ cls = .ref D ∧ d = some dd ∧ H dd = some (.xd fs) ∧ H tp = some (.tup cs) ∧ Paired ClsV cs ws ∧ PySem.W.kitAny K (.ref D) ws = some b ∧ Q (.bl b) H
theorem call_isDT {X : Cx} {a D : Addr} {cls : Value} {d : Option Addr} {oe : Obj} {pn : List (Addr × Obj)} (C : ExcC X.K D) (hz : Zc cls d oe) (hf : ∃ vs, oe.data = .fields vs) : CallR (X.suite a ((a, oe) :: pn)) (.builtin "isinstance") (rIsDT X.K D a cls d) := by
  intro pins s σ H xs us Q I r h
  obtain ⟨tp, cs, ws, b, dd, fs, rfl, rfl, rfl, ea, hT, k, e, q⟩ := h
  obtain ⟨u1, u2, rfl, r1, r2⟩ := vals2 r
  cases (show u1 = Value.ref a from r1)
  cases (show u2 = Value.ref tp from r2)
  obtain ⟨od, J⟩ := inst_at hz hf I ea
  obtain ⟨_, its, rv, o, h1, h2, n, h3⟩ := (show ObjOk X.prog X.w H s.heap tp (.tup cs) from I.hok tp _ hT)
  have ei := ClsV.all k rv
  obtain ⟨oc, odd, oda, osl⟩ := o
  simp only at h2 h3
  subst h2 h3
  rw [ei] at h1
  exact PySem.W.kia_tup (kitD C) I.kIn J h1 e (fun z => nomatch z) fun tk => ⟨.bl b, H, I.tok tk, rfl, q⟩
end Ml
/-! enumerate(list, start=1) -/
namespace Ml
open PySem PySem.Spec PyProof.Rows L2
/-- the list at a, each item in a new pair with its place, counted from one -/
def It1 (K : PySem.W.Frag) (a : Addr) : It :=
  ⟨fun i H => ∃ (xs : List V) (x : V), SqL K H a xs ∧ xs[i]? = some x, fun i H v H' => ∃ T x, v = .ref T ∧ H T = none ∧ H' = upd H T (.tup [.int ((i + 1 : Nat) : Int), x]) ∧ ∀ xs, SqL K H a xs → xs[i]? = some x, fun i H => ∃ xs : List V, SqL K H a xs ∧ i = xs.length⟩
theorem turn_enum1 {P : Program} {w : World} {K : PySem.W.Frag} {elts : List Expr} {kk : Nat} {tpos : Pos} (a e it : Addr) (nae : a ≠ e) (nai : a ≠ it) :
    Turn P w K (.Tuple elts kk tpos) (It1 K a) [e, it] e (fun i h => (∃ old, IsEnum h e it ((i + 1 : Nat) : Int) old) ∧ h.IsListIter it a i ∧ e ≠ it) where
  mem := by simp
  obj := fun i h st b hb => by
    obtain ⟨⟨old, he⟩, ⟨o, ho, _, hd⟩, _⟩ := st
    rcases List.mem_cons.mp hb with z | z
    · rw [z]; exact ⟨_, he, fun v q => nomatch q⟩
    · rw [List.mem_singleton.mp z]; exact ⟨o, ho, fun v q => by rw [hd] at q; cases q⟩
  keep := fun i h h' st k => by
    obtain ⟨⟨old, he⟩, hi, ne⟩ := st
    exact ⟨⟨old, k e (by simp) _ he⟩, hi.at fun o q => k it (by simp) o q, ne⟩
  item := by
    intro X hP hw hK calm i pins s σ H E I hf st hg
    subst hP hw hK
    obtain ⟨⟨old, he⟩, hit, ne⟩ := st
    obtain ⟨xs, x, hq, hx⟩ := hg
    obtain ⟨its, rv, isL, _⟩ := I.list hq
    obtain ⟨u, hu, ru⟩ := rv.get hx
    have hel : e < s.heap.objs.size := Heap.lt_size he
    have hil : it < s.heap.objs.size := by obtain ⟨_, q, _⟩ := hit; exact Heap.lt_size q
    have lt : i < its.toArray.size := by
      rw [List.size_toArray]
      exact (List.getElem?_eq_some_iff.mp hu).1
    have hA : X.A.in1.handled = none := I.ok.hd calm
    refine wpAny_pyNext_enum_itemC (PySem.Draws.list hA it a nai its.toArray) he ⟨hit, isL.isList⟩ lt ne (by simp only [List.mem_cons, List.not_mem_nil, or_false, not_or]; exact ⟨ne, nae.symm⟩) fun y g tk hy ho st' hT hsz hk => ?_
    obtain rfl : y = u := by
      have z : its[i]? = some y := by simpa using hy
      exact Option.some.inj (z.symm.trans hu)
    refine ⟨_, rfl, wpAny_letOwnedTupleGo_enum (s := { s with heap := g, toks := tk + 1 }) ho fun g2 he' sb => ?_⟩
    have hT2 : g2.get? s.heap.objs.size = some { cls := .type "tuple", data := .seq #[.int ((i + 1 : Nat) : Int) tk, y] } := (sb.2 _ (Nat.ne_of_gt hel)).trans hT
    have new : ObjOk X.prog X.w (upd H s.heap.objs.size (.tup [.int ((i + 1 : Nat) : Int), x])) g2 s.heap.objs.size (.tup [.int ((i + 1 : Nat) : Int), x]) :=
      ⟨by show 2 ≤ sizeLine; decide, [.int ((i + 1 : Nat) : Int) tk, y], .cons ⟨_, rfl⟩ (.cons ru .nil), ⟨_, hT2, rfl, _, rfl⟩⟩
    have I1 : Inv X pins σ (upd H s.heap.objs.size (.tup [.int ((i + 1 : Nat) : Int), x])) { s with heap := g2, toks := tk + 1 } :=
      I.turnedNew (ch := [e, it]) (fun b ob hb q => (sb.2 b (fun z => hb (by simp [z]))).trans (hk b ob (fun z => hb (by simp [z])) (fun z => hb (by simp [z])) q)) hf (Nat.le_refl _) new
    refine ⟨.ref s.heap.objs.size, _, I1, rfl, ⟨_, x, rfl, I.hok.fresh (Nat.le_refl _), rfl, fun ys hy => by rw [I.list_inj hy hq]; exact hx⟩, ⟨⟨y, ?_⟩, st'.1.at fun o q => (sb.2 it (Ne.symm ne)).trans q, ne⟩, fun b hb => ?_⟩
    · rw [show ((i + 1 + 1 : Nat) : Int) = ((i + 1 : Nat) : Int) + 1 by omega]
      exact he'
    · have lb : b < s.heap.objs.size := by
        rcases List.mem_cons.mp hb with z | z
        · rw [z]; exact hel
        · rw [List.mem_singleton.mp z]; exact hil
      rw [upd_ne (Nat.ne_of_lt lb)]
      exact (hf b hb).1
  done := by
    intro X hP hw hK calm i pins s σ H E I hf st hg
    subst hP hw hK
    obtain ⟨⟨old, he⟩, hit, ne⟩ := st
    obtain ⟨xs, hq, hx⟩ := hg
    obtain ⟨its, rv, isL, _⟩ := I.list hq
    obtain ⟨f0, f1, f2, f3, f4, f5⟩ := hf it (by simp)
    have hl := rv.length
    have hA : X.A.in1.handled = none := I.ok.hd calm
    have hn : its.toArray.size = i := by rw [List.size_toArray, ← hl]; exact hx.symm
    refine wpAny_pyNext_enum_endD (PySem.Draws.list hA it a nai its.toArray) he ⟨by rw [hn]; exact hit, isL.isList⟩ fun g eb => ⟨rfl, I.turned (t' := s.toks) (fun b o hb q => eb b o hb q) f0 f1 f3 f4 f5⟩
  self := fun A i s Q E st h => by
    obtain ⟨⟨_, he⟩, _⟩ := st
    exact wpAny_pyIter_enum he h
section
variable {M : Model} {A : Around} {E : Value → Shared → Prop} {s : Shared} {env : Env}
theorem callWith_type_kwB {pos : Pos} {id : String} {first : List Value} {args : List (Bool × Sem Value)} {keywords : List (Option Str × Sem Value)} {Q : Value → Shared → Prop}
    (hplain : args.any (·.1) = false) (hkw : keywords.any (·.1.isNone) = false)
    (h : wpAny M A (evalArgs (.type id) true args keywords) (fun a s₁ => wpAny M A (call (.type id) (first ++ a.pos) a.kw) Q E s₁) E s) :
    wpAny M A (callWith pos (.type id) first args keywords) Q E s := by
  unfold callWith
  refine wpAny_bind (wpAny_holding (wpAny_mono h (fun a s₁ h₁ => wpAny_bind (wpAny_standAt ?_)) fun _ _ x => x))
  simp only [hplain, hkw, Bool.or_false]
  refine wpAny_bind (wpAny_pure ?_)
  exact wpAny_bind (wpAny_mono h₁ (fun r s₂ hr => wpAny_bind (wpAny_holding (wpAny_point (wpAny_pure hr)))) fun _ _ x => x)
theorem callWith_typeK {pos : Pos} {id : String} {e : Expr} {rest : List Expr} {kws : List Keyword} {Q : Value → Shared → Prop}
    (h : wpAny M A (spliced (backTo pos (starEach (e :: rest) env))) (fun vs s₁ => wpAny M A (evalAll ((backToKw pos (keywordEach kws env)).map (·.2)))
      (fun kvs s₂ => wpAny M A (call (.type id) vs (((backToKw pos (keywordEach kws env)).filterMap (·.1)).zip kvs)) Q E s₂) E s₁) E s)
    (he : backTo pos (starEach (e :: rest) env) = (false, eval e env) :: backTo pos (starEach rest env) := by rfl)
    (hplain : (backTo pos (starEach (e :: rest) env)).any (·.1) = false := by rfl)
    (hall : (backToKw pos (keywordEach kws env)).all (·.1.isSome) = true := by rfl)
    (hkw : (backToKw pos (keywordEach kws env)).any (·.1.isNone) = false := by rfl) :
    wpAny M A (callWith pos (.type id) [] (backTo pos (starEach (e :: rest) env)) (backToKw pos (keywordEach kws env))) Q E s := by
  refine callWith_type_kwB hplain hkw ?_
  rw [he] at h ⊢
  exact evalArgs_kwB hall h
end
def iEnum1 (K : PySem.W.Frag) (ta : TA) (tk : TA) : TI := fun σ H R => ta σ H fun vs H1 => tk σ H1 fun zs H2 => ∃ a xs, vs = [.ref a] ∧ zs = [.int 1] ∧ SqL K H2 a xs ∧ R (It1 K a) H2
theorem pi_enum1 {X : Cx} {e ek : Expr} {ta tk : TA} {p pos tpos kp : Pos} {elts : List Expr} {kk : Nat} (hg : Gl X "enumerate") (hm : X.mg "enumerate" = none) (ha : PA X [e] ta) (hk : PK X [⟨some "start", ek, kp⟩] tk)
    (he : backTo pos (starEach [e] X.env) = (false, eval e X.env) :: backTo pos (starEach [] X.env) := by rfl) (hpl : (backTo pos (starEach [e] X.env)).any (·.1) = false := by rfl)
    (hall : (backToKw pos (keywordEach [⟨some "start", ek, kp⟩] X.env)).all (·.1.isSome) = true := by rfl) (hnone : (backToKw pos (keywordEach [⟨some "start", ek, kp⟩] X.env)).any (·.1.isNone) = false := by rfl)
    (hks : (backToKw pos (keywordEach [⟨some "start", ek, kp⟩] X.env)).filterMap (·.1) = [("start" : Str)] := by rfl) :
    PI X (.Tuple elts kk tpos) (.Call (.Name "enumerate" p) [e] [⟨some "start", ek, kp⟩] pos) (iEnum1 X.K ta tk) := by
  refine ⟨fun pins s σ H R I h => ?_⟩
  refine wpAny_Call_Name_kw (ld_blt I hg hm boot_enumerate ?_)
  refine callWith_typeK (thn (ha.run pos pins s σ H _ I h) fun us s1 ⟨vs, H1, I1, r1, q1⟩ => thn (hk.run pos pins s1 σ H1 _ I1 q1) fun ws z ⟨zs, H2, I2, r2, q2⟩ => ?_) he hpl hall hnone
  rw [hks]
  obtain ⟨a, xs, rfl, rfl, hq, q⟩ := q2
  obtain ⟨u, rfl, ru⟩ := r1.one
  cases ru
  obtain ⟨u2, rfl, ru2⟩ := r2.one
  obtain ⟨tk2, rfl⟩ : ∃ t, u2 = .int 1 t := by
    obtain ⟨t, e⟩ := ru2
    exact ⟨t, e⟩
  obtain ⟨its, rv, isL, _⟩ := I2.list hq
  have la : a < z.heap.objs.size := by
    obtain ⟨_, ho, _⟩ := isL.isList
    exact Heap.lt_size ho
  refine enum_begins_start (begins_list a its.toArray) isL.isList (by decide) (by decide) fun g he hit hsz hk' => wpAny_pyIter_enum he ?_
  have I3 : Inv X pins σ H2 { z with heap := g } := I2.kept (t' := z.toks) hk'
  refine ⟨z.heap.objs.size + 1, [z.heap.objs.size + 1, z.heap.objs.size], _, _, H2, rfl, I3, turn_enum1 a (z.heap.objs.size + 1) z.heap.objs.size (Nat.ne_of_lt (Nat.lt_succ_of_lt la)) (Nat.ne_of_lt la), ⟨⟨.none, he⟩, ⟨_, hit, rfl, rfl⟩, Nat.succ_ne_self _⟩, fun b hb => ?_, q⟩
  have le : z.heap.objs.size ≤ b := by
    rcases List.mem_cons.mp hb with e1 | e1
    · rw [e1]; exact Nat.le_succ _
    · rw [List.mem_singleton.mp e1]; exact Nat.le_refl _
  exact I2.fpOk le (I2.hok.fresh le)
/-- a loop over enumerate(list, start=1) -/
theorem for_enum1 {K : PySem.W.Frag} {a : Addr} {xs : List V} {g : TG} {tb : TS} {D : Ends} {σ : L2.St} {H : Hp} (Pv : Nat → L2.St → Hp → Prop) (h0 : Pv 0 σ H) (hq : ∀ i σ H, Pv i σ H → SqL K H a xs)
    (hs : ∀ (i : Nat) (x : V) (T : Addr) (σ : L2.St) (H : Hp), xs[i]? = some x → Pv i σ H → H T = none → g (.ref T) σ (upd H T (.tup [.int ((i + 1 : Nat) : Int), x])) fun σ2 H2 => tb { D with nx := Pv (i + 1), ct := Pv (i + 1), bk := D.nx } σ2 H2) (hd : ∀ σ H, Pv xs.length σ H → D.nx σ H) :
    ∃ W : Nat → Nat → L2.St → Hp → Prop, (∃ m, W 0 m σ H) ∧ ∀ i m σ H, W i m σ H →
      ((It1 K a).stop i H ∧ D.nx σ H) ∨ ((It1 K a).go i H ∧ ∃ N : L2.St → Hp → Prop, (∀ σ' H', N σ' H' → ∃ m', m' < m ∧ W (i + 1) m' σ' H') ∧ ∀ v H', (It1 K a).yld i H v H' → g v σ H' fun σ2 H2 => tb { D with nx := N, ct := N, bk := D.nx } σ2 H2) := by
  refine ⟨fun i m σ H => m = xs.length - i ∧ i ≤ xs.length ∧ Pv i σ H, ⟨xs.length, rfl, Nat.zero_le _, h0⟩, ?_⟩
  rintro i m σ H ⟨rfl, hi, p⟩
  have q := hq i σ H p
  by_cases lt : i < xs.length
  · refine .inr ⟨⟨xs, _, q, List.getElem?_eq_getElem lt⟩, Pv (i + 1), fun σ' H' p' => ⟨xs.length - (i + 1), by omega, rfl, lt, p'⟩, fun v H' y => ?_⟩
    obtain ⟨T, x, rfl, hT, rfl, f⟩ := y
    exact hs i x T σ H (f xs q) p hT
  · have e : i = xs.length := by omega
    subst e
    exact .inl ⟨⟨xs, q, rfl⟩, hd σ H p⟩
end Ml
namespace Ml
open PySem PySem.Spec PyProof.Rows L2
/-! values and what they are, place by place -/
def Als {α : Type} (R : V → α → Prop) (vs : List V) (xs : List α) : Prop := vs.length = xs.length ∧ ∀ (i : Nat) v x, vs[i]? = some v → xs[i]? = some x → R v x
theorem Als.nil {α : Type} {R : V → α → Prop} : Als R [] [] := ⟨rfl, fun i v x a _ => by simp at a⟩
theorem Als.append {α : Type} {R : V → α → Prop} {vs ws : List V} {xs ys : List α} (h : Als R vs xs) (g : Als R ws ys) : Als R (vs ++ ws) (xs ++ ys) := by
  refine ⟨by rw [List.length_append, List.length_append, h.1, g.1], fun i v x a b => ?_⟩
  by_cases hi : i < vs.length
  · rw [List.getElem?_append_left hi] at a
    rw [List.getElem?_append_left (by rw [← h.1]; exact hi)] at b
    exact h.2 i v x a b
  · rw [List.getElem?_append_right (by omega)] at a
    rw [List.getElem?_append_right (by rw [← h.1]; omega), ← h.1] at b
    exact g.2 _ v x a b
theorem Als.one {α : Type} {R : V → α → Prop} {v : V} {x : α} (h : R v x) : Als R [v] [x] := by
  refine ⟨rfl, fun i u y a b => ?_⟩
  cases i with
  | zero =>
    cases Option.some.inj a
    cases Option.some.inj b
    exact h
  | succ k => simp at a
theorem Als.snoc {α : Type} {R : V → α → Prop} {vs : List V} {xs : List α} {v : V} {x : α} (h : Als R vs xs) (q : R v x) : Als R (vs ++ [v]) (xs ++ [x]) := h.append (Als.one q)
theorem Als.mono {α : Type} {R R' : V → α → Prop} {vs : List V} {xs : List α} (h : Als R vs xs) (e : ∀ v x, R v x → R' v x) : Als R' vs xs := ⟨h.1, fun i v x a b => e v x (h.2 i v x a b)⟩
theorem Als.at {α : Type} {R : V → α → Prop} {vs : List V} {xs : List α} (h : Als R vs xs) {i : Nat} {v : V} (hv : vs[i]? = some v) : ∃ x, xs[i]? = some x ∧ R v x := by
  have hi : i < xs.length := by rw [← h.1]; exact (List.getElem?_eq_some_iff.mp hv).1
  exact ⟨xs[i], List.getElem?_eq_getElem hi, h.2 i v _ hv (List.getElem?_eq_getElem hi)⟩
/-- all but one list stays -/
def Fr (fo : Addr) (H H' : Hp) : Prop := ∀ b o, H b = some o → b ≠ fo → H' b = some o
theorem Fr.refl (fo : Addr) (H : Hp) : Fr fo H H := fun _ _ h _ => h
theorem Fr.upd {fo : Addr} {H H1 : Hp} {o : HO} (a : Fr fo H H1) : Fr fo H (L2.upd H1 fo o) := fun c x h n => by
  rw [upd_ne n]
  exact a c x h n
theorem Fr.sqT {K : PySem.W.Frag} {fo : Addr} {H H' : Hp} {a : Addr} {xs ys : List V} (e : Fr fo H H') (hf : H fo = some (.lst ys)) (h : SqT K H a xs) : SqT K H' a xs := by
  rcases h with (q | ⟨o, q⟩) | q
  · exact .inl (.inl (e _ _ q (ne_of q hf (by intro z; cases z))))
  · exact .inl (.inr ⟨o, e _ _ q (ne_of q hf (by intro z; cases z))⟩)
  · exact .inr q
end Ml
namespace Ml
open PySem PySem.Spec PyProof.Rows L2
/-! ### trees of a nested table, as values -/
/-- the parts are told by items and levels -/
structure Can (t : List (List Int)) (S : List Nat) (l : Int) (Ss : List (List Nat)) : Prop where
  asc : S.Pairwise (· < ·)
  top : (∃ x ∈ S, ∃ y ∈ S, lev t x y = l) ∧ ∀ x ∈ S, ∀ y ∈ S, lev t x y ≤ l
  cls : ∀ P ∈ Ss, ∃ y ∈ S, P = S.filter fun x => decide (lev t y x < l)
  cov : ∀ x ∈ S, ∃ P ∈ Ss, x ∈ P
  ord : Ss.Pairwise fun a b => a.headD 0 < b.headD 0
structure NodeOk (t : List (List Int)) (S : List Nat) (l : Int) (Ss : List (List Nat)) : Prop where
  mem : ∀ x, x ∈ S ↔ ∃ P ∈ Ss, x ∈ P
  len : S.length = (Ss.map List.length).sum
  lt : ∀ P ∈ Ss, 0 < P.length ∧ P.length < S.length
  diff : ∀ x y, x ∈ S → y ∈ S → x ≠ y → (∀ P ∈ Ss, x ∈ P → y ∉ P) → lev t x y = l
  lv : LvOk l
  two : 2 ≤ S.length
  can : Can t S l Ss
inductive TrV (K : PySem.W.Frag) (H : Hp) (t : List (List Int)) : Nat → List Nat → V → Prop where
  | leaf (n i : Nat) (hi : i < 100) : TrV K H t n [i] (.int (i : Int))
  | node {n : Nat} {S : List Nat} {p : Addr} {l : Int} {vs : List V} {Ss : List (List Nat)} (h : SqT K H p (.int l :: vs)) (hl : vs.length = Ss.length)
      (hk : ∀ (k : Nat) v P, vs[k]? = some v → Ss[k]? = some P → TrV K H t n P v) (ok : NodeOk t S l Ss) : TrV K H t (n + 1) S (.ref p)
theorem TrV.same {K : PySem.W.Frag} {H H' : Hp} {t : List (List Int)} {n : Nat} {S : List Nat} {v : V} (h : TrV K H t n S v) (e : Sm H H') : TrV K H' t n S v := by
  induction h with
  | leaf n i hi => exact .leaf n i hi
  | node h hl _ ok ih => exact .node (e.sqT h) hl ih ok
theorem TrV.mono {K : PySem.W.Frag} {H : Hp} {t : List (List Int)} {n : Nat} {S : List Nat} {v : V} (h : TrV K H t n S v) : ∀ {m : Nat}, n ≤ m → TrV K H t m S v := by
  induction h with
  | leaf n i hi => exact fun _ => .leaf _ i hi
  | node h hl _ ok ih =>
    intro m hm
    obtain ⟨k, rfl⟩ : ∃ k, m = k + 1 := ⟨m - 1, by omega⟩
    exact .node h hl (fun j v P a b => ih j v P a b (by omega)) ok
theorem TrV.kp {K : PySem.W.Frag} {H H' : Hp} {t : List (List Int)} {n : Nat} {S : List Nat} {v : V} {d c r : Addr} {m : Nat} (h : TrV K H t n S v) (g : Dr H d c r m) (e : Kp d r H H') : TrV K H' t n S v := by
  induction h with
  | leaf n i hi => exact .leaf n i hi
  | node h hl _ ok ih => exact .node (g.kpT e h) hl ih ok
theorem TrV.upd {K : PySem.W.Frag} {H : Hp} {t : List (List Int)} {n : Nat} {S : List Nat} {v : V} {o : Addr} {us zs : List V} (h : TrV K H t n S v) (ho : H o = some (.lst us)) : TrV K (L2.upd H o (.lst zs)) t n S v := by
  induction h with
  | leaf n i hi => exact .leaf n i hi
  | node h hl _ ok ih => exact .node (sqT_upd ho h) hl ih ok
theorem TrV.pos {K : PySem.W.Frag} {H : Hp} {t : List (List Int)} {n : Nat} {S : List Nat} {v : V} (h : TrV K H t n S v) : 0 < S.length := by
  cases h with
  | leaf n i hi => exact Nat.zero_lt_one
  | node h hl hk ok =>
    have := ok.two
    omega
/-! ### as data -/
theorem shown_tup_le (ds : List PyData) : (PyData.shown (.tuple ds)).length ≤ ((PyData.shownAll ds).map (·.length)).sum + 2 * (PyData.shownAll ds).length + 3 := by
  have e := tupleText_len_le (PyData.shownAll ds)
  show (tupleText (PyData.shownAll ds)).length ≤ _
  omega
structure Good (n : Nat) (d : PyData) : Prop where
  sh : d.showable = true
  nd : d.hasDict = false
  dp : d.depth ≤ n
  ly : d.canLay0 = true
theorem good_int (n : Nat) {i : Int} (h : i.natAbs < 10 ^ 13) : Good n (.int i) := by
  have e : i.natAbs.log2 < 1920 := by
    have : i.natAbs < 2 ^ 64 := Nat.lt_of_lt_of_le h (by decide)
    exact Nat.lt_trans (PySem.Flt.log2_lt_of (by decide) this) (by decide)
  exact ⟨by simp [PyData.showable, e], by simp [PyData.hasDict], by simp [PyData.depth], by simp [PyData.canLay0]⟩
theorem kidsT {K : PySem.W.Frag} {H : Hp} {n : Nat} : ∀ {vs : List V} {Ss : List (List Nat)}, vs.length = Ss.length → (∀ (k : Nat) v P, vs[k]? = some v → Ss[k]? = some P → ∃ d, Dp K H v d ∧ Good n d ∧ d.shown.length + 25 ≤ 40 * P.length) →
    ∃ ds, DpAll K H vs ds ∧ PyData.showableAll ds = true ∧ PyData.hasDictAll ds = false ∧ PyData.depthAll ds ≤ n ∧ PyData.canLayAll0 ds = true ∧ ((PyData.shownAll ds).map (·.length)).sum + 25 * Ss.length ≤ 40 * (Ss.map List.length).sum ∧ (PyData.shownAll ds).length = Ss.length
  | [], [], _, _ => ⟨[], .nil, by simp [PyData.showableAll], by simp [PyData.hasDictAll], by simp [PyData.depthAll], by simp [PyData.canLayAll0], by simp [PyData.shownAll], by simp [PyData.shownAll]⟩
  | [], _ :: _, e, _ => by simp at e
  | _ :: _, [], e, _ => by simp at e
  | v :: vs, P :: Ss, e, h => by
    obtain ⟨d, d1, g, d2⟩ := h 0 v P rfl rfl
    obtain ⟨ds, a1, a2, a3, a4, a5, a6, a7⟩ := kidsT (vs := vs) (Ss := Ss) (by simpa using e) fun k u Q x y => h (k + 1) u Q (by simpa using x) (by simpa using y)
    refine ⟨d :: ds, .cons d1 a1, by simp [PyData.showableAll, g.sh, a2], by simp [PyData.hasDictAll, g.nd, a3], ?_, by simp [PyData.canLayAll0, g.ly, a5], ?_, by simp [PyData.shownAll, a7]⟩
    · simp only [PyData.depthAll]
      have := g.dp
      omega
    · simp only [PyData.shownAll, List.map_cons, List.sum_cons, List.length_cons]
      omega
theorem two_parts {t : List (List Int)} {S : List Nat} {l : Int} {Ss : List (List Nat)} (ok : NodeOk t S l Ss) : 2 ≤ Ss.length := by
  match Ss, ok with
  | [], ok =>
    have h1 := ok.len
    have h2 := ok.two
    rw [h1] at h2
    simp at h2
  | [P], ok =>
    have h1 := ok.len
    have h2 := (ok.lt P List.mem_cons_self).2
    simp at h1
    omega
  | _ :: _ :: _, _ => simp
theorem TrV.dp {K : PySem.W.Frag} {H : Hp} {t : List (List Int)} {n : Nat} {S : List Nat} {v : V} (h : TrV K H t n S v) : ∃ d, Dp K H v d ∧ Good n d ∧ d.shown.length + 25 ≤ 40 * S.length := by
  induction h with
  | leaf n i hi =>
    refine ⟨.int (i : Int), .int _, good_int n (by omega), ?_⟩
    have := shown_int14 (i := (i : Int)) (by omega)
    show _ ≤ 40 * 1
    omega
  | node h hl _ ok ih =>
    rename_i n S p l vs Ss hk
    obtain ⟨ds, a1, a2, a3, a4, a5, a6, a7⟩ := kidsT hl ih
    have lv := ok.lv
    have gl := good_int (n + 1) (i := l) (by unfold LvOk at lv; omega)
    refine ⟨.tuple (.int l :: ds), .tup h (.cons (.int l) a1), ⟨?_, ?_, ?_, ?_⟩, ?_⟩
    · have g := gl.sh
      simp only [PyData.showable, PyData.showableAll] at g ⊢
      rw [g, a2]
      rfl
    · simp [PyData.hasDict, PyData.hasDictAll, a3]
    · simp only [PyData.depth, PyData.depthAll]
      omega
    · simp [PyData.canLay0, PyData.canLayAll0, a5]
    · have e := shown_tup_le (.int l :: ds)
      have e1 := shown_int14 (i := l) (by unfold LvOk at lv; omega)
      have e2 := two_parts ok
      simp only [PyData.shownAll, List.map_cons, List.sum_cons, List.length_cons] at e
      have e3 := ok.len
      omega
/-! ### dividing items at their greatest level -/
structure Split (t : List (List Int)) (S : List Nat) (l : Int) (Ss : List (List Nat)) (L : List Nat) : Prop where
  nd : L.Nodup
  sub : ∀ x ∈ L, x ∈ S
  cov : ∀ x ∈ S, x ∈ L ∨ ∃ P ∈ Ss, x ∈ P
  dis : ∀ P ∈ Ss, ∀ x ∈ P, x ∈ S ∧ x ∉ L
  len : S.length = (Ss.map List.length).sum + L.length
  lt : ∀ P ∈ Ss, 0 < P.length ∧ P.length < S.length
  cross : ∀ P ∈ Ss, ∀ x ∈ P, ∀ y ∈ S, y ∉ P → lev t x y = l
  sasc : S.Pairwise (· < ·)
  lasc : L.Pairwise (· < ·)
  cls : ∀ P ∈ Ss, ∃ y ∈ S, P = S.filter fun x => decide (lev t y x < l)
  ord : Ss.Pairwise fun a b => a.headD 0 < b.headD 0
  low : ∀ P ∈ Ss, ∀ x ∈ L, P.headD 0 < x
theorem asc_nd {S : List Nat} (h : S.Pairwise (· < ·)) : S.Nodup := h.imp fun {a b} z e => by omega
theorem asc_eq {S T : List Nat} (h : S.Pairwise (· < ·)) (k : T.Pairwise (· < ·)) (e : ∀ x, x ∈ S ↔ x ∈ T) : S = T :=
  ((List.perm_ext_iff_of_nodup (asc_nd h) (asc_nd k)).mpr e).eq_of_pairwise (le := (· ≤ ·)) (fun a b _ _ x y => by omega) (h.imp fun {a b} z => by omega) (k.imp fun {a b} z => by omega)
theorem Split.start {t : List (List Int)} {S : List Nat} {l : Int} (asc : S.Pairwise (· < ·)) : Split t S l [] S :=
  ⟨asc_nd asc, fun _ h => h, fun _ h => .inl h, fun P h => by simp at h, by simp, fun P h => by simp at h, fun P h => by simp at h, asc, asc, fun P h => by simp at h, .nil, fun P h => by simp at h⟩
theorem filt_two {α : Type} (f : α → Bool) : ∀ L : List α, (L.filter f).length + (L.filter fun x => !f x).length = L.length
  | [] => rfl
  | a :: L => by
    have ih := filt_two f L
    by_cases h : f a = true
    · simp only [List.filter_cons, h, if_true, List.length_cons, Bool.not_true, Bool.false_eq_true, if_false]
      omega
    · have h' : f a = false := by cases e : f a <;> simp_all
      simp only [List.filter_cons, h', if_false, Bool.not_false, if_true, List.length_cons, Bool.false_eq_true]
      omega
def partOf (t : List (List Int)) (l : Int) (a : Nat) (L : List Nat) : List Nat := L.filter fun x => decide (lev t a x < l)
theorem Split.step {t : List (List Int)} {S : List Nat} {l : Int} {Ss : List (List Nat)} {a : Nat} {L : List Nat} (hU : Ultra t) (hS : ∀ x ∈ S, x < t.length) (l0 : 0 < l) (hmax : ∀ x ∈ S, ∀ y ∈ S, lev t x y ≤ l) (hz : ∃ x ∈ S, ∃ y ∈ S, lev t x y = l)
    (sp : Split t S l Ss (a :: L)) : Split t S l (Ss ++ [partOf t l a (a :: L)]) ((a :: L).filter fun x => !decide (x ∈ partOf t l a (a :: L))) := by
  have haS : a ∈ S := sp.sub a List.mem_cons_self
  have haP : a ∈ partOf t l a (a :: L) := List.mem_filter.mpr ⟨List.mem_cons_self, decide_eq_true (by rw [lev_self]; exact l0)⟩
  have headP : (partOf t l a (a :: L)).headD 0 = a := by
    unfold partOf
    rw [List.filter_cons, if_pos (decide_eq_true (by rw [lev_self]; exact l0))]
    rfl
  have inP : ∀ x, x ∈ partOf t l a (a :: L) ↔ x ∈ a :: L ∧ lev t a x < l := fun x => by
    unfold partOf
    rw [List.mem_filter, decide_eq_true_iff]
  have memL : ∀ x, x ∈ (a :: L).filter (fun x => !decide (x ∈ partOf t l a (a :: L))) ↔ x ∈ a :: L ∧ x ∉ partOf t l a (a :: L) := fun x => by
    rw [List.mem_filter]
    simp
  have new : ∀ x ∈ partOf t l a (a :: L), ∀ y ∈ S, y ∉ partOf t l a (a :: L) → lev t x y = l := fun x hx y hy hn => by
    obtain ⟨hx1, hx2⟩ := (inP x).mp hx
    have hxS := sp.sub x hx1
    rcases sp.cov y hy with h | ⟨P, hP, hyP⟩
    · have h3 : ¬ lev t a y < l := fun z => hn ((inP y).mpr ⟨h, z⟩)
      have u := hU a x y (hS a haS) (hS x hxS) (hS y hy)
      have m := hmax x hxS y hy
      omega
    · rw [lev_comm]
      exact sp.cross P hP y hyP x hxS fun z => (sp.dis P hP x z).2 hx1
  refine ⟨sp.nd.filter _, fun x hx => sp.sub x ((memL x).mp hx).1, fun x hx => ?_, fun P hP x hx => ?_, ?_, fun P hP => ?_, fun P hP x hx y hy hn => ?_, sp.sasc, sp.lasc.filter _, fun P hP => ?_, ?_, fun P hP x hx => ?_⟩
  · rcases sp.cov x hx with h | ⟨P, hP, h⟩
    · by_cases z : x ∈ partOf t l a (a :: L)
      · exact .inr ⟨_, List.mem_append_right _ (List.mem_singleton.mpr rfl), z⟩
      · exact .inl ((memL x).mpr ⟨h, z⟩)
    · exact .inr ⟨P, List.mem_append_left _ hP, h⟩
  · rcases List.mem_append.mp hP with hP | hP
    · obtain ⟨h1, h2⟩ := sp.dis P hP x hx
      exact ⟨h1, fun z => h2 ((memL x).mp z).1⟩
    · rw [List.mem_singleton.mp hP] at hx
      exact ⟨sp.sub x ((inP x).mp hx).1, fun z => ((memL x).mp z).2 hx⟩
  · have e1 := sp.len
    have e2 := filt_two (fun x => decide (lev t a x < l)) (a :: L)
    have e3 : (a :: L).filter (fun x => !decide (x ∈ partOf t l a (a :: L))) = (a :: L).filter (fun x => !decide (lev t a x < l)) := by
      refine List.filter_congr fun x hx => ?_
      congr 1
      rw [decide_eq_decide, inP x]
      exact ⟨fun z => z.2, fun z => ⟨hx, z⟩⟩
    rw [e3, List.map_append, List.sum_append]
    show _ = _ + ([(partOf t l a (a :: L)).length].sum) + _
    unfold partOf
    simp only [List.sum_cons, List.sum_nil]
    omega
  · rcases List.mem_append.mp hP with hP | hP
    · exact sp.lt P hP
    · rw [List.mem_singleton.mp hP]
      refine ⟨List.length_pos_of_mem haP, ?_⟩
      obtain ⟨x, hx, y, hy, e⟩ := hz
      have u := hU x a y (hS x hx) (hS a haS) (hS y hy)
      rw [lev_comm t x a] at u
      obtain ⟨z, hzS, hzP⟩ : ∃ z ∈ S, z ∉ partOf t l a (a :: L) := by
        by_cases q : lev t a x < l
        · exact ⟨y, hy, fun w => by have := ((inP y).mp w).2; omega⟩
        · exact ⟨x, hx, fun w => q ((inP x).mp w).2⟩
      have := List.Nodup.length_le_of_subset (l₁ := z :: partOf t l a (a :: L)) (l₂ := S) (List.nodup_cons.mpr ⟨hzP, sp.nd.filter _⟩) (fun w hw => by
        rcases List.mem_cons.mp hw with rfl | hw
        · exact hzS
        · exact sp.sub w ((inP w).mp hw).1)
      rw [List.length_cons] at this
      omega
  · rcases List.mem_append.mp hP with hP | hP
    · exact sp.cross P hP x hx y hy hn
    · rw [List.mem_singleton.mp hP] at hx hn
      exact new x hx y hy hn
  · rcases List.mem_append.mp hP with hP | hP
    · exact sp.cls P hP
    · rw [List.mem_singleton.mp hP]
      refine ⟨a, haS, asc_eq (sp.lasc.filter _) (sp.sasc.filter _) fun x => ?_⟩
      rw [inP x, List.mem_filter, decide_eq_true_iff]
      refine ⟨fun z => ⟨sp.sub x z.1, z.2⟩, fun z => ⟨?_, z.2⟩⟩
      rcases sp.cov x z.1 with q | ⟨P', hP', q⟩
      · exact q
      · have := sp.cross P' hP' x q a haS fun w => (sp.dis P' hP' a w).2 List.mem_cons_self
        rw [lev_comm] at this
        omega
  · refine List.pairwise_append.mpr ⟨sp.ord, List.pairwise_singleton _ _, fun P hP Q hQ => ?_⟩
    rw [List.mem_singleton.mp hQ, headP]
    exact sp.low P hP a List.mem_cons_self
  · have hxL := ((memL x).mp hx).1
    rcases List.mem_append.mp hP with hP | hP
    · exact sp.low P hP x hxL
    · rw [List.mem_singleton.mp hP, headP]
      rcases List.mem_cons.mp hxL with e | hxL
      · exact absurd (e ▸ haP) ((memL x).mp hx).2
      · exact (List.pairwise_cons.mp sp.lasc).1 x hxL
/-! ### one tree, told by levels and items -/
end Ml
namespace Ml
open PySem PySem.Spec PyProof.Rows L2
/-! ### lists of good values: by displays, concatenations and comprehensions -/
def GLs (d c r : Addr) (J : L2.St → Hp → Prop) (L k a m : Nat) (G : Hp → V → Prop) (te : TE) : Prop :=
  ∀ n σ H (Q : VK), n + k ≤ L → Dr H d c r n → J σ H → (∀ l xs H', Kp d r H H' → Dr H' d c r (n + k) → J σ H' → LV d r G H' l xs → a ≤ xs.length → xs.length ≤ m → Q (.ref l) H') → te σ H Q
/-- values without lists -/
def GVn (K : PySem.W.Frag) (B k W : Nat) (H : Hp) (v : V) : Prop := ∃ x, Da K noL H v x ∧ Sz B k x ∧ wt x ≤ W
/-- what holds whatever a list is made into -/
def StaS (G : Hp → V → Prop) : Prop := ∀ (H : Hp) (D : Addr) (ys zs : List V) (v : V), H D = some (.lst ys) → G H v → G (upd H D (.lst zs)) v
section
variable {K : PySem.W.Frag} {d c r : Addr} {J J' : L2.St → Hp → Prop} {L B k W a m k' a' m' W' B' k1 k2 : Nat} {G G' G0 : Hp → V → Prop} {te te' : TE} {ta : TA}
theorem GVn.gv {H : Hp} {v : V} (h : GVn K B k W H v) : GV K d r B k W H v := by
  obtain ⟨x, a, b⟩ := h
  exact ⟨x, a.noL, b⟩
theorem GVn.mono {H : Hp} {v : V} (h : GVn K B k W H v) (hB : B ≤ B') (hk : k ≤ k') (hW : W ≤ W') : GVn K B' k' W' H v := by
  obtain ⟨x, a, b, z⟩ := h
  exact ⟨x, a, b.mono hB hk, by omega⟩
theorem GVn.same {H H' : Hp} {v : V} (h : GVn K B k W H v) (e : Sm H H') : GVn K B k W H' v := by
  obtain ⟨x, a, b⟩ := h
  exact ⟨x, a.same e, b⟩
theorem GLs.mono (h : GLs d c r J L k a m G te) (hk : k ≤ k') (ha : a' ≤ a) (hm : m ≤ m') (g : ∀ H v, G H v → G' H v) : GLs d c r J L k' a' m' G' te := fun n σ H Q hn D hJ q =>
  h n σ H Q (by omega) D hJ fun l xs H' b e j v l1 l2 => q l xs H' b (e.mono (by omega)) j ⟨v.at_, v.nd, v.nr, fun u hu => g _ _ (v.good u hu)⟩ (by omega) (by omega)
/-- what a comprehension has collected -/
structure CL (d c r : Addr) (H1 : Hp) (D : Addr) (G : Hp → V → Prop) (n k i : Nat) (Hx : Hp) : Prop where
  ex : ∃ xs, Hx D = some (.lst xs) ∧ xs.length = i ∧ ∀ v ∈ xs, G Hx v
  dr : Dr Hx d c r (n + k * i)
  kp : Kp d r H1 Hx
theorem CL.init {H1 : Hp} {D : Addr} {n : Nat} (g : Dr H1 d c r n) (hD : H1 D = none) : CL d c r H1 D G n k 0 (upd H1 D (.lst [])) :=
  ⟨⟨[], upd_same, rfl, fun v hv => by simp at hv⟩, g.new hD, Kp.new hD⟩
theorem CL.step (hG : Sta d c r G) (hS : StaS G) {H1 H4 Hx : Hp} {D : Addr} {n i : Nat} (h : CL d c r H1 D G n k i Hx) (g1 : Dr H1 d c r n) (hD : H1 D = none) (hi : i ≤ 1000) {y : V} (e : Kp d r Hx H4) (g : Dr H4 d c r (n + k * i + k)) (p : G H4 y) :
    ∃ acc, H4 D = some (.lst acc) ∧ acc.length < sizeLine ∧ CL d c r H1 D G n k (i + 1) (upd H4 D (.lst (acc ++ [y]))) := by
  obtain ⟨xs, h1, h2, h3⟩ := h.ex
  have nD := g1.ne hD
  have h1' := e _ _ h1 nD.1 nD.2.2
  refine ⟨xs, h1', lt_line (by omega), ⟨⟨xs ++ [y], upd_same, by rw [List.length_append, h2]; rfl, fun v hv => ?_⟩, ?_, fun b o q q1 q2 => ?_⟩⟩
  · refine hS _ _ _ _ _ h1' ?_
    rcases List.mem_append.mp hv with hv | hv
    · exact hG _ _ _ _ h.dr e (h3 v hv)
    · rw [List.mem_singleton.mp hv]; exact p
  · rw [Nat.mul_succ, ← Nat.add_assoc]
    exact g.upd nD.1 nD.2.1 nD.2.2
  · rw [upd_ne (ne_of_none q hD)]
    exact e b o (h.kp b o q q1 q2) q1 q2
end
end Ml
namespace Ml
open PySem PySem.Spec PyProof.Rows L2
/-! ### parts of trees: data of any kind -/
def mn (l : List Nat) : Nat := l.min?.getD 0
end Ml
namespace Ml
open PySem PySem.Spec PyProof.Rows L2
/-! ### clusters -/
structure UlF (F : Nat → Nat → Int) (n : Nat) : Prop where
  diag : ∀ i, i < n → F i i = 0
  sym : ∀ i j, F i j = F j i
  tri : ∀ i j k, i < n → j < n → k < n → F i j ≤ max (F i k) (F k j)
  pos : ∀ i j, i < n → j < n → i ≠ j → 0 < F i j
theorem UlF.gr {F : Nat → Nat → Int} {n : Nat} (U : UlF F n) {l : Int} (h : 0 ≤ l) : GrF F n l := ⟨fun i hi => by rw [U.diag i hi]; exact h, U.sym, U.tri⟩
theorem UlF.nn {F : Nat → Nat → Int} {n : Nat} (U : UlF F n) {i j : Nat} (hi : i < n) (hj : j < n) : 0 ≤ F i j := by
  by_cases e : i = j
  · subst e
    rw [U.diag i hi]
    exact Int.le_refl _
  · exact Int.le_of_lt (U.pos i j hi hj e)
def Cl (F : Nat → Nat → Int) (n : Nat) (k : List Int) : Prop := ∃ i j, i < n ∧ j < n ∧ i ≠ j ∧ k = iL (grp F n (F i j) i)
section
variable {F : Nat → Nat → Int} {n : Nat}
theorem Cl.ne (U : UlF F n) {k : List Int} (h : Cl F n k) : k ≠ [] := by
  obtain ⟨i, j, hi, hj, _, rfl⟩ := h
  intro e
  have := grp_ne (U.gr (U.nn hi hj)) hi
  cases e2 : grp F n (F i j) i with
  | nil => exact this e2
  | cons a r => rw [e2] at e; cases e
end
/-! a walk, whatever is done at each turn -/
end Ml
namespace Ml
open PySem PySem.Spec PyProof.Rows L2
/-! ### joins -/
abbrev Jo := Int × List (List Int)
def jnD (j : Jo) : PyData := .tuple [.int j.1, tabD j.2]
def partsN (F : Nat → Nat → Int) (n : Nat) (l : Int) (g : List Nat) : List (List Nat) := (gsL F n (l - 1) n).filter fun p => decide (p.headD 0 ∈ g)
def joinG (F : Nat → Nat → Int) (n : Nat) (l : Int) (g : List Nat) : Jo := (l, (partsN F n l g).map iL)
section
variable {F : Nat → Nat → Int} {n : Nat}
def k2 (j : Jo) : Int := hdI (j.2.headD [])
/-! the program's list -/
end
/-! joins on the heap -/
def JT (K : PySem.W.Frag) (H : Hp) (v : V) (j : Jo) : Prop := ∃ p qv, v = .ref p ∧ SqT K H p [.int j.1, qv] ∧ TT K H qv j.2
def JRows (K : PySem.W.Frag) (H : Hp) (vs : List V) (js : List Jo) : Prop := vs.length = js.length ∧ ∀ (i : Nat) v j, vs[i]? = some v → js[i]? = some j → JT K H v j
def JTT (K : PySem.W.Frag) (H : Hp) (v : V) (js : List Jo) : Prop := ∃ p vs, v = .ref p ∧ SqT K H p vs ∧ JRows K H vs js
section
variable {K : PySem.W.Frag} {H H' : Hp} {vs : List V} {js : List Jo} {v : V} {j : Jo}
theorem JT.same (h : JT K H v j) (e : Sm H H') : JT K H' v j := by
  obtain ⟨p, qv, h1, h2, h3⟩ := h
  exact ⟨p, qv, h1, e.sqT h2, h3.same e⟩
theorem JT.upd {p : Addr} {ys zs : List V} (h : JT K H v j) (hp : H p = some (.lst ys)) : JT K (L2.upd H p (.lst zs)) v j := by
  obtain ⟨a, qv, h1, h2, h3⟩ := h
  exact ⟨a, qv, h1, sqT_upd hp h2, h3.upd hp⟩
theorem JT.dp (h : JT K H v j) : Dp K H v (jnD j) := by
  obtain ⟨p, qv, rfl, h2, h3⟩ := h
  exact .tup h2 (.cons (.int _) (.cons h3.dp .nil))
theorem JRows.nil : JRows K H [] [] := ⟨rfl, fun i v j a _ => by simp at a⟩
theorem JRows.same (h : JRows K H vs js) (e : Sm H H') : JRows K H' vs js := ⟨h.1, fun i v j a b => (h.2 i v j a b).same e⟩
theorem JRows.upd {p : Addr} {ys zs : List V} (h : JRows K H vs js) (hp : H p = some (.lst ys)) : JRows K (L2.upd H p (.lst zs)) vs js := ⟨h.1, fun i v j a b => (h.2 i v j a b).upd hp⟩
theorem JRows.snoc (h : JRows K H vs js) (q : JT K H v j) : JRows K H (vs ++ [v]) (js ++ [j]) := by
  refine ⟨by rw [List.length_append, List.length_append, h.1]; rfl, fun i w k a b => ?_⟩
  by_cases hi : i < vs.length
  · rw [List.getElem?_append_left hi] at a
    rw [List.getElem?_append_left (by rw [← h.1]; exact hi)] at b
    exact h.2 i w k a b
  · rw [List.getElem?_append_right (by omega)] at a
    rw [List.getElem?_append_right (by rw [← h.1]; omega)] at b
    have h0 : i - vs.length = 0 := by
      have := (List.getElem?_eq_some_iff.mp a).1
      simpa using this
    rw [h0] at a
    rw [show i - js.length = 0 by rw [← h.1]; exact h0] at b
    cases a
    cases b
    exact q
theorem JTT.same (h : JTT K H v js) (e : Sm H H') : JTT K H' v js := by
  obtain ⟨p, vs, h1, h2, h3⟩ := h
  exact ⟨p, vs, h1, e.sqT h2, h3.same e⟩
theorem JTT.dp (h : JTT K H v js) : Dp K H v (.tuple (js.map jnD)) := by
  obtain ⟨p, vs, rfl, h2, h3⟩ := h
  refine .tup h2 (dpAll_of (by rw [List.length_map]; exact h3.1) fun i v d a b => ?_)
  rw [List.getElem?_map] at b
  cases e : js[i]? with
  | none => rw [e] at b; cases b
  | some j => rw [e] at b; cases b; exact (h3.2 i v j a e).dp
end
end Ml
namespace Ml
open PySem PySem.Spec PyProof.Rows L2
/-! ### joins make a tree -/
section
variable {F : Nat → Nat → Int} {n : Nat}
/-- what has its tree after m joins -/
def Has (F : Nat → Nat → Int) (n : Nat) (js : List Jo) (m : Nat) (g : List Nat) : Prop := (∃ i, i < n ∧ g = [i]) ∨ ∃ i x, i < n ∧ x < n ∧ i ≠ x ∧ joinG F n (F i x) (grp F n (F i x) i) ∈ js.take m ∧ g = grp F n (F i x) i
end
/-! ### the dict of trees -/
abbrev KK (g : List Nat) : List Key := g.map fun i : Nat => (Sum.inl (i : Int) : Key)
/-- the dict after m joins -/
def Trees (K : PySem.W.Frag) (H : Hp) (t : List (List Int)) (js : List Jo) (m : Nat) (kvs : List (List Key × V)) : Prop := kvs.length ≤ t.length + m ∧ ∀ g, Has (jn t) t.length js m g → ∃ v, valV kvs (KK g) = some v ∧ TrV K H (jtab t) (g.length - 1) g v
theorem Trees.same {K : PySem.W.Frag} {H H' : Hp} {t : List (List Int)} {js : List Jo} {m : Nat} {kvs : List (List Key × V)} (h : Trees K H t js m kvs) (e : Sm H H') : Trees K H' t js m kvs :=
  ⟨h.1, fun g hg => let ⟨v, a, b⟩ := h.2 g hg; ⟨v, a, b.same e⟩⟩
/-! a dict and a tuple of any standing -/
end Ml
namespace Ml
open PySem PySem.Spec PyProof.Rows L2
/-! ### calls of defs that show something -/
theorem GOk.mono {P : Program} {w : World} {K : PySem.W.Frag} {mg : Str → Option Value} {base : Heap} {j k : Nat} {f : Addr} {fd : FuncData} {ps : List Str} {sp : Sp} (F : GOk P w K mg base j f fd ps sp) (h : j ≤ k) : GOk P w K mg base k f fd ps sp :=
  ⟨F.len, fun A outer s H args us vs Q E hg hr => F.go A outer s H args us vs Q E hg (hr.mono h)⟩
end Ml
namespace Ml
open PySem PySem.Spec PyProof.Rows L2
/-! ### one row more -/
theorem lev_app {t : List (List Int)} {row : List Int} {i j : Nat} (hi : i < t.length) (hj : j < t.length) : lev (t ++ [row]) i j = lev t i j := by
  unfold lev
  by_cases h : i = j
  · rw [if_pos h, if_pos h]
  · rw [if_neg h, if_neg h, List.getD_eq_getElem?_getD (l := t ++ [row]), List.getElem?_append_left (by omega), ← List.getD_eq_getElem?_getD]
theorem lev_last {t : List (List Int)} {row : List Int} {i : Nat} (hi : i < t.length) : lev (t ++ [row]) i t.length = row.getD i 0 := by
  unfold lev
  rw [if_neg (by omega), Nat.max_eq_right (by omega), Nat.min_eq_left (by omega), List.getD_eq_getElem?_getD (l := t ++ [row]), List.getElem?_append_right (by omega), Nat.sub_self]
  rfl
theorem even_snoc {t : List (List Int)} {row : List Int} : AllEven (t ++ [row]) ↔ AllEven t ∧ ∀ i j, i < j → j < t.length → Ev (t ++ [row]) i j t.length := by
  have hl : (t ++ [row]).length = t.length + 1 := by rw [List.length_append]; rfl
  constructor
  · intro h
    refine ⟨fun i j k hT => ?_, fun i j h1 h2 => h i j t.length ⟨h1, h2, by omega⟩⟩
    have := h i j k ⟨hT.1, hT.2.1, by have := hT.2.2; omega⟩
    unfold Ev at this ⊢
    rw [lev_app (by have := hT.1; have := hT.2; omega) (by have := hT.2; omega), lev_app (by have := hT.1; have := hT.2; omega) hT.2.2, lev_app (by have := hT.2; omega) hT.2.2] at this
    exact this
  · rintro ⟨h, g⟩ i j k ⟨h1, h2, h3⟩
    by_cases hk : k < t.length
    · have := h i j k ⟨h1, h2, hk⟩
      unfold Ev at this ⊢
      rw [lev_app (by omega) (by omega), lev_app (by omega) hk, lev_app (by omega) hk]
      exact this
    · obtain rfl : k = t.length := by omega
      exact g i j h1 h2
/-! ### one item more -/
def growR (t : List (List Int)) (near : Nat) (l : Int) : List Int := (List.range t.length).map fun k => max l (lev t near k)
def grow (t : List (List Int)) (near : Nat) (l : Int) : List (List Int) := t ++ [growR t near l]
theorem growR_len (t : List (List Int)) (near : Nat) (l : Int) : (growR t near l).length = t.length := by unfold growR; simp
theorem growR_at {t : List (List Int)} {near : Nat} {l : Int} {i : Nat} (hi : i < t.length) : (growR t near l).getD i 0 = max l (lev t near i) := by
  unfold growR
  rw [List.getD_eq_getElem?_getD, List.getElem?_map, List.getElem?_range hi]
  rfl
theorem growR_ok {t : List (List Int)} (hW : WT t) {near : Nat} {l : Int} (hn : near < t.length) (hl : LvOk l) : ∀ x ∈ growR t near l, LvOk x := by
  intro x hx
  obtain ⟨k, hk, rfl⟩ := List.mem_map.mp hx
  have hk := List.mem_range.mp hk
  by_cases e : near = k
  · subst e
    rw [lev_self]
    unfold LvOk at hl ⊢
    omega
  · have := hW.lev hn hk e
    unfold LvOk at hl this ⊢
    omega
theorem grow_wt {t : List (List Int)} (hW : WT t) {near : Nat} {l : Int} (hn : near < t.length) (hl : LvOk l) : WT (grow t near l) := hW.snoc (growR_len t near l) (growR_ok hW hn hl)
theorem grow_even {t : List (List Int)} (hW : WT t) (hU : Ultra t) {near : Nat} {l : Int} (hn : near < t.length) : AllEven (grow t near l) := by
  refine even_snoc.mpr ⟨even_of_ultra hU, fun i j h1 h2 => ?_⟩
  unfold Ev
  rw [lev_app (by omega) h2, lev_last (by omega), lev_last h2, growR_at (by omega), growR_at h2]
  have a := hU i near j (by omega) hn h2
  have b := hU near i j hn (by omega) h2
  have c := hU near j i hn h2 (by omega)
  rw [lev_comm t i near] at a
  rw [lev_comm t j i] at c
  unfold Ev3
  omega
theorem grow_ultra {t : List (List Int)} (hW : WT t) (hU : Ultra t) {near : Nat} {l : Int} (hn : near < t.length) (hl : LvOk l) : Ultra (grow t near l) := ultra_of_even (grow_wt hW hn hl) (grow_even hW hU hn)
/-! ### some of the items -/
end Ml
namespace Ml
open PySem PySem.Spec PyProof.Rows L2
/-! ### a dict of zip of two sequences, lists or tuples -/
def AIt : Bool → Heap → Addr → Addr → Nat → Prop
  | true, h, it, l, k => h.IsTupleIter it l k
  | false, h, it, l, k => h.IsListIter it l k
def ASq : Bool → Heap → Addr → Array Value → Prop
  | true, h, l, xs => h.IsTuple l xs
  | false, h, l, xs => h.IsList l xs
theorem AIt.at {b : Bool} {h h' : Heap} {it l : Addr} {k : Nat} (x : AIt b h it l k) (e : ∀ o, h.get? it = some o → h'.get? it = some o) : AIt b h' it l k := by
  cases b with
  | true => exact Heap.IsTupleIter.at x e
  | false => exact Heap.IsListIter.at x e
theorem ASq.at {b : Bool} {h h' : Heap} {l : Addr} {xs : Array Value} (x : ASq b h l xs) (e : ∀ o, h.get? l = some o → h'.get? l = some o) : ASq b h' l xs := by
  cases b with
  | true => exact Heap.IsTuple.at x e
  | false => exact Heap.IsList.at x e
theorem AIt.ex {b : Bool} {h h' : Heap} {it l c : Addr} {k : Nat} (x : AIt b h it l k) (e : Heap.ExtBut c h h') (ne : it ≠ c) : AIt b h' it l k := x.at fun o q => e _ _ ne q
theorem ASq.ex {b : Bool} {h h' : Heap} {l c : Addr} {xs : Array Value} (x : ASq b h l xs) (e : Heap.ExtBut c h h') (ne : l ≠ c) : ASq b h' l xs := x.at fun o q => e _ _ ne q
theorem AIt.there {b : Bool} {h : Heap} {it l : Addr} {k : Nat} (x : AIt b h it l k) : ∃ o, h.get? it = some o := by
  cases b with
  | true => obtain ⟨o, e, _⟩ := x; exact ⟨o, e⟩
  | false => obtain ⟨o, e, _⟩ := x; exact ⟨o, e⟩
theorem ASq.there {b : Bool} {h : Heap} {l : Addr} {xs : Array Value} (x : ASq b h l xs) : ∃ o, h.get? l = some o := by
  cases b with
  | true => obtain ⟨o, e, _⟩ := x; exact ⟨o, e⟩
  | false => obtain ⟨o, e, _⟩ := x; exact ⟨o, e⟩
/-! ### zip of a tuple and a list -/
/-! ### a dict of zip of whole numbers and values -/
end Ml
namespace Ml
open PySem PySem.Spec PyProof.Rows L2
/-! ### own classes: what the top has written of them -/
/-- a property -/
structure Pd (K : PySem.W.Frag) (C : Addr) (m qual : Str) (st : Stmt) (f : Addr) (fd : FuncData) : Prop where
  P : ∃ p, PropOf K C m p f
  F : Fun K m qual st f fd
  b : Binds K fd ["self"] []
end Ml
namespace Ml
open PySem PySem.Spec PyProof.Rows L2
/-! ### the head by a run in the kernel: facts of the written part, found by names -/
abbrev Ft : Type := PySem.W.Frag → Bool
/-- a def, a method, a property's function: where it stands, what it is -/
structure DefE where
  ad : PySem.W.Frag → Addr
  name : Str
  qual : Str
  params : Arguments
  body : List Stmt
  scope : Scope
def DefE.obs (K : PySem.W.Frag) (d : DefE) : He.FnV := match K.lookup (d.ad K) with
  | some ⟨_, _, .func fd, _⟩ => some (fd.name, fd.qualname, fd.params, fd.body, fd.scope, fd.globals, fd.closure, fd.defaults, fd.builtins)
  | _ => none
def DefE.val (d : DefE) : He.FnV := some (d.name, d.qual, d.params, .stmts d.body, d.scope, mainGlobals, [], .none, builtinsNs)
def DefE.ok (K : PySem.W.Frag) (d : DefE) : Bool := match K.lookup (d.ad K) with
  | some ⟨_, _, .func fd, _⟩ => PySem.W.codeIn K fd.code d.qual
  | _ => false
theorem DefE.at_ {K : PySem.W.Frag} {d : DefE} (e : d.obs K = d.val) (c : d.ok K = true) :
    ∃ oc od osl kV doc pm an cdv ct, K.lookup (d.ad K) = some ⟨oc, od, .func (PySem.W.fnOf d.name d.qual d.params d.body d.scope .none kV doc pm an cdv ct), osl⟩ ∧ PySem.W.codeIn K cdv d.qual = true := by
  unfold DefE.obs at e
  unfold DefE.ok at c
  cases q : K.lookup (d.ad K) with
  | none =>
    rw [q] at c
    cases c
  | some o =>
    obtain ⟨oc, od, dt, osl⟩ := o
    rw [q] at c e
    cases dt with
    | func fd =>
      obtain ⟨n1, n2, n3, n4, n5, n6, n7, n8, n9, n10, n11, n12, n13, n14, n15⟩ := fd
      have e2 : (some (n1, n2, n3, n4, n5, n6, n7, n8, n15) : He.FnV) = some (d.name, d.qual, d.params, .stmts d.body, d.scope, mainGlobals, [], .none, builtinsNs) := e
      simp only [Option.some.injEq, Prod.mk.injEq] at e2
      obtain ⟨h1, h2, h3, h4, h5, h6, h7, h8, h9⟩ := e2
      subst h1 h2 h3 h4 h5 h6 h7 h8 h9
      exact ⟨oc, od, osl, n9, n10, n11, n12, n13, n14, rfl, c⟩
    | _ => cases c
abbrev Al2 : Type := Bool × List He.FnV
def obs2 (fs : List (List Ft)) (fn : List DefE) (K : PySem.W.Frag) : Al2 := ((fs.all fun l => l.all fun f => f K) && fn.all fun d => d.ok K, fn.map fun d => d.obs K)
def val2 (fn : List DefE) : Al2 := (true, fn.map DefE.val)
def Says2 (fs : List (List Ft)) (fn : List DefE) (K : PySem.W.Frag) : Prop := obs2 fs fn K = val2 fn
/-- what an object names: no built-in, no class's bases (they are the module's names themselves) -/
def refsF (o : Obj) : List Addr := match o.data with
  | .seq its _ => its.toList.flatMap He.refV
  | .dict es _ => es.toList.flatMap fun e => He.refV e.val
  | .func fd => He.refV fd.code ++ He.refV fd.defaults ++ He.refV fd.kwdefaults
  | .cls cd => [cd.ns]
  | .fields vs => vs.toList.flatMap He.refV
  | _ => []
def froF (g : Addr → Option Obj) (as : List Addr) : List Addr := as.flatMap fun a => match g a with
  | some o => refsF o
  | none => []
/-- level by level, nothing twice but by chance -/
def asF (g : Addr → Option Obj) : Nat → List Addr → List Addr
  | 0, as => as
  | n + 1, as => as ++ asF g n (froF g as)
def kG (n : Nat) (g : Addr → Option Obj) : PySem.W.Frag := He.frG g (asF g n [mainGlobals])
def kOf (n : Nat) (s : PySem.W.SharedT) : PySem.W.Frag := kG n (HandSHeadRun.getT s)
def obsG2 (n : Nat) (fs : List (List Ft)) (fn : List DefE) (g : Addr → Option Obj) : Al2 := obs2 fs fn (kG n g)
def hook2 (n : Nat) (fs : List (List Ft)) (fn : List DefE) : PySem.W.Hook where
  α := Al2
  obs := fun s => obsG2 n fs fn s.heap.get?
  val := fun _ => val2 fn
  says := fun _ h => ∃ K : PySem.W.Frag, K.In h ∧ Says2 fs fn K
  of := fun _ _ e => ⟨_, He.frG_in, e⟩
  keeps := fun _ _ _ ⟨K, hK, c⟩ k => ⟨K, PySem.W.Frag.In.keeps hK k, c⟩
def ob2 (n : Nat) (fs : List (List Ft)) (fn : List DefE) (s : PySem.W.SharedT) : Al2 := obsG2 n fs fn (HandSHeadRun.getT s)
/-- the run of the top, looked at part by part: each part a run of its own -/
theorem run_of {r : PySem.W.OpenRow} {q : Program} {n M : Nat} {fs : List (List Ft)} {fn : List DefE} {loose : List Str} {w : World}
    (hA : ∀ os : OsState, (HandSHeadRun.endF (HandSHeadRun.stepQ (HandSHeadRun.denQ HandSHeadRun.tabQ) r.prog w) M r.prog w os).map (fun s => HandSHeadRun.looksF r.prog (PySem.W.boot_heap w.params) s.abs) = some true)
    (hB : ∀ os : OsState, (HandSHeadRun.endF (HandSHeadRun.stepQ (HandSHeadRun.denQ HandSHeadRun.tabQ) r.prog w) M r.prog w os).map (fun s => HandSHeadRun.seenQ q loose (PySem.importedModules r.prog.main.body) (fun s => PySem.W.xlAt q [] s && PySem.W.recOk r.toRowW.records s) s.abs) = some (PySem.W.openGood q loose))
    (hF : ∀ l ∈ fs, ∀ os : OsState, (HandSHeadRun.endF (HandSHeadRun.stepQ (HandSHeadRun.denQ HandSHeadRun.tabQ) r.prog w) M r.prog w os).map (fun s => l.all fun f => f (kOf n s)) = some true)
    (hD : ∀ os : OsState, (HandSHeadRun.endF (HandSHeadRun.stepQ (HandSHeadRun.denQ HandSHeadRun.tabQ) r.prog w) M r.prog w os).map (fun s => (fn.all fun d => d.ok (kOf n s), fn.map fun d => d.obs (kOf n s))) = some (true, fn.map DefE.val)) :
    HandSHeadRun.RunEq r q (hook2 n fs fn) (ob2 n fs fn) M loose w := fun os => by
  obtain ⟨s, hs, h1⟩ := Option.map_eq_some_iff.mp (hA os)
  have h2 := hB os
  have h4 := hD os
  rw [hs] at h2 h4 ⊢
  have h2 := Option.some.inj h2
  have h4 := Option.some.inj h4
  have h3 : (fs.all fun l => l.all fun f => f (kOf n s)) = true := List.all_eq_true.mpr fun l hl => by
    have h3 := hF l hl os
    rw [hs] at h3
    exact Option.some.inj h3
  have h4a := congrArg Prod.fst h4
  have h4b := congrArg Prod.snd h4
  have h5 : ob2 n fs fn s = val2 fn := by
    show (((fs.all fun l => l.all fun f => f (kOf n s)) && fn.all fun d => d.ok (kOf n s), fn.map fun d => d.obs (kOf n s)) : Al2) = (true, fn.map DefE.val)
    rw [h3, show (fn.all fun d => d.ok (kOf n s)) = true from h4a, show (fn.map fun d => d.obs (kOf n s)) = fn.map DefE.val from h4b]
    rfl
  exact congrArg some (Prod.ext h1 (Prod.ext h2 h5))
section
variable {fs : List (List Ft)} {fn : List DefE} {K : PySem.W.Frag}
theorem Says2.fact (c : Says2 fs fn K) (i j : Nat) {l : List Ft} {f : Ft} (hi : fs[i]? = some l := by rfl) (hj : l[j]? = some f := by rfl) : f K = true := by
  have c1 := (He.ba (show ((fs.all fun l => l.all fun f => f K) && fn.all fun d => d.ok K) = true from congrArg (fun z : Al2 => z.1) c)).1
  exact List.all_eq_true.mp (List.all_eq_true.mp c1 l (List.mem_of_getElem? hi)) f (List.mem_of_getElem? hj)
theorem Says2.def_ (c : Says2 fs fn K) (i : Nat) {d : DefE} (h : fn[i]? = some d := by rfl) :
    ∃ oc od osl kV doc pm an cdv ct, K.lookup (d.ad K) = some ⟨oc, od, .func (PySem.W.fnOf d.name d.qual d.params d.body d.scope .none kV doc pm an cdv ct), osl⟩ ∧ PySem.W.codeIn K cdv d.qual = true := by
  have c2 := (He.ba (show ((fs.all fun l => l.all fun f => f K) && fn.all fun d => d.ok K) = true from congrArg (fun z : Al2 => z.1) c)).2
  have e : fn.map (fun d => d.obs K) = fn.map DefE.val := congrArg (fun z : Al2 => z.2) c
  have e2 : (fn.map fun d => d.obs K)[i]? = (fn.map DefE.val)[i]? := by rw [e]
  rw [List.getElem?_map, List.getElem?_map, h] at e2
  exact DefE.at_ (Option.some.inj e2) (List.all_eq_true.mp c2 d (List.mem_of_getElem? h))
end
/-! ### what a fact names, as a function of the written part -/
def tkG (K : PySem.W.Frag) (x : Str) : Tok := match PySem.W.nsIn K mainGlobals x with
  | some (some (.int _ t)) => t
  | _ => 0
def kvB (K : PySem.W.Frag) (f : Addr) (v : Value) : Bool := match K.lookup f with
  | some ⟨_, _, .func fd, _⟩ => decide (fd.kwdefaults = v)
  | _ => false
theorem kv_of {K : PySem.W.Frag} {f : Addr} {v : Value} {oc : Value} {od an : Option Addr} {sl : Array (Option Value)} {n q : Str} {a : Arguments} {b : List Stmt} {sc : Scope} {kV doc pm cd ct : Value}
    (h : kvB K f v = true) (e : K.lookup f = some ⟨oc, od, .func (PySem.W.fnOf n q a b sc .none kV doc pm an cd ct), sl⟩) : kV = v := by
  unfold kvB at h
  rw [e] at h
  exact of_decide_eq_true h
def mroB (K : PySem.W.Frag) (C : Addr) (l : List Value) : Bool := match K.lookup C with
  | some ⟨_, _, .cls cd, _⟩ => decide (cd.mro = .ref C :: l) && cd.hasDict
  | _ => false
theorem exc_cls {K : PySem.W.Frag} {C : Addr} {bmB l : List Value} {newId : String} (q : PySem.W.excInitIn K C bmB newId = true) (m : mroB K C l = true) :
    ∃ nm qn N bs sn sub ab col dd k0 k1 k2 k3 k5, K.lookup C = some (excClassObj nm qn C N bs l true sn sub ab col dd k0 k1 k2 k3 k5 newId) := by
  unfold PySem.W.excInitIn at q
  unfold mroB at m
  split at q
  · rename_i dd cd sl ho
    rw [ho] at m
    have m1 : (decide (cd.mro = .ref C :: l) && cd.hasDict) = true := m
    obtain ⟨m1, m2⟩ := He.ba m1
    have m3 := of_decide_eq_true m1
    split at q
    · rename_i C' bm k0 k1 k2 k3 n k5 hm hs
      simp only [Bool.and_eq_true, beq_iff_eq, Bool.not_eq_true'] at q
      obtain ⟨⟨⟨rfl, rfl⟩, hdel⟩, ht⟩ := q
      obtain ⟨nm, bs, mro, ns, qn, hd, sn, sub, ab, col, del⟩ := cd
      dsimp only at hm hdel m3 m2
      subst hm hdel m2
      obtain ⟨_, rfl⟩ := List.cons.inj m3
      have hsl : sl = #[k0, k1, k2, k3, some (.builtin n), k5] := by
        obtain ⟨l⟩ := sl
        simp only at hs
        rw [hs]
      subst hsl
      exact ⟨nm, qn, ns, bs, sn, sub, ab, col, dd, k0, k1, k2, k3, k5, ho⟩
    · cases q
  · cases q
/-- the end, for a law that shows its data, over a head by facts -/
theorem walk_GE {l : PySem.W.OpenLaw} {n k : Nat} {q : Program} {loose : List Str} {XP : (Str → Option Value) → Heap → Prop} {YP : World → Heap → Prop} {d : DefRec} {x : Str}
    (hn : l.most = some n) (hn2 : n ≤ sizeLine) (hdf : d.params.defaults = []) (room : Room k callerA)
    (F : ∀ (w : World) (mg : Str → Option Value) (fa : Addr) (h : Heap), YP w h → h.Ns mainGlobals mg → mg d.name = some (.ref fa) →
      ∃ (K : PySem.W.Frag) (sp : PySem.W.Frag → Sp), K.In h ∧ (∀ (H : Hp) (a : Addr) (ns : List Int), ns.length ≤ n → SqL K H a (ns.map V.int) → sp K [.ref a] H (fun v _ => v = .bl true) fun _ _ _ => False) ∧
        ∃ fd : FuncData, (∀ (s : Shared) (u : Value), BindsTo s fd ⟨[u], []⟩ [(x, u)]) ∧ ∀ base : Heap, K.In base → base.Ns mainGlobals mg → GOk l.prog w K mg base k fa fd [x] (sp K)) :
    PySem.W.WalkO q loose XP YP l.row.toRowW d [] (fun f vs => PySem.call f vs) := by
  refine Att.attach_call hn hdf fun w _ z mg mb fa o pm cd doc a vs ns G Y _ _ _ hmg at_a itsI hlen gens => ?_
  obtain ⟨K, sp, KX, say, fd, hb, hF⟩ := F w mg fa _ Y G.T.g hmg
  exact law_G KX G.T.g G.T.b G.T.builtins G.T.nolimit gens at_a itsI (Nat.le_trans hlen hn2) room hF hb fun H hS => say H a ns hlen hS
/-! ### a dict of the module with texts as keys: its hashes hang on the world -/
/-! ### the same head, with what hangs on the world -/
abbrev Al3 : Type := Al2 × List Int
def obsG3 (n : Nat) (fs : List (List Ft)) (fn : List DefE) (hx : PySem.W.Frag → List Int) (g : Addr → Option Obj) : Al3 := (obs2 fs fn (kG n g), hx (kG n g))
def hook3 (n : Nat) (fs : List (List Ft)) (fn : List DefE) (hx : PySem.W.Frag → List Int) (hv : World → List Int) : PySem.W.Hook where
  α := Al3
  obs := fun s => obsG3 n fs fn hx s.heap.get?
  val := fun w => (val2 fn, hv w)
  says := fun w h => ∃ K : PySem.W.Frag, K.In h ∧ Says2 fs fn K ∧ hx K = hv w
  of := fun _ _ e => ⟨_, He.frG_in, congrArg (fun z : Al3 => z.1) e, congrArg (fun z : Al3 => z.2) e⟩
  keeps := fun _ _ _ ⟨K, hK, c⟩ k => ⟨K, PySem.W.Frag.In.keeps hK k, c⟩
def ob3 (n : Nat) (fs : List (List Ft)) (fn : List DefE) (hx : PySem.W.Frag → List Int) (s : PySem.W.SharedT) : Al3 := obsG3 n fs fn hx (HandSHeadRun.getT s)
theorem ob3_eq {n : Nat} {fs : List (List Ft)} {fn : List DefE} {hx : PySem.W.Frag → List Int} {hv : World → List Int} (s : PySem.W.SharedT) : ob3 n fs fn hx s = (hook3 n fs fn hx hv).obs s.abs := by
  have e : HandSHeadRun.getT s = s.abs.heap.get? := funext (HandSHeadRun.getT_eq s)
  show obsG3 n fs fn hx (HandSHeadRun.getT s) = obsG3 n fs fn hx s.abs.heap.get?
  rw [e]
theorem run_of3 {r : PySem.W.OpenRow} {q : Program} {n M : Nat} {fs : List (List Ft)} {fn : List DefE} {hx : PySem.W.Frag → List Int} {hv : World → List Int} {loose : List Str} {w : World}
    (hA : ∀ os : OsState, (HandSHeadRun.endF (HandSHeadRun.stepQ (HandSHeadRun.denQ HandSHeadRun.tabQ) r.prog w) M r.prog w os).map (fun s => HandSHeadRun.looksF r.prog (PySem.W.boot_heap w.params) s.abs) = some true)
    (hB : ∀ os : OsState, (HandSHeadRun.endF (HandSHeadRun.stepQ (HandSHeadRun.denQ HandSHeadRun.tabQ) r.prog w) M r.prog w os).map (fun s => HandSHeadRun.seenQ q loose (PySem.importedModules r.prog.main.body) (fun s => PySem.W.xlAt q [] s && PySem.W.recOk r.toRowW.records s) s.abs) = some (PySem.W.openGood q loose))
    (hF : ∀ l ∈ fs, ∀ os : OsState, (HandSHeadRun.endF (HandSHeadRun.stepQ (HandSHeadRun.denQ HandSHeadRun.tabQ) r.prog w) M r.prog w os).map (fun s => l.all fun f => f (kOf n s)) = some true)
    (hD : ∀ os : OsState, (HandSHeadRun.endF (HandSHeadRun.stepQ (HandSHeadRun.denQ HandSHeadRun.tabQ) r.prog w) M r.prog w os).map (fun s => ((fn.all fun d => d.ok (kOf n s), fn.map fun d => d.obs (kOf n s)), hx (kOf n s))) = some ((true, fn.map DefE.val), hv w)) :
    HandSHeadRun.RunEq r q (hook3 n fs fn hx hv) (ob3 n fs fn hx) M loose w := fun os => by
  have hR := run_of (fn := fn) hA hB hF (fun os => by
    obtain ⟨s, hs, h1⟩ := Option.map_eq_some_iff.mp (hD os)
    rw [hs]
    exact congrArg some (congrArg (fun z => z.1) h1)) os
  obtain ⟨s, hs, h1⟩ := Option.map_eq_some_iff.mp (hA os)
  have h4 := hD os
  rw [hs] at hR h4 ⊢
  have h4 := congrArg (fun z => z.2) (Option.some.inj h4)
  have h5 := Option.some.inj hR
  have h6 := congrArg (fun z => z.1) h5
  have h7 := congrArg (fun z => z.2.1) h5
  have h8 := congrArg (fun z => z.2.2) h5
  exact congrArg some (Prod.ext h6 (Prod.ext h7 (Prod.ext h8 h4)))
end Ml
namespace Ml
open PySem PySem.Spec PyProof.Rows L2
def topS (i : Nat) : Stmt := PySem.Challenge.pw_mergelevels_k79_other_texts_of_tables.main.body.getD i (.Pass ⟨0, 0, 0, 0⟩)
abbrev s_is_whole : Stmt := topS 8
abbrev N_is_whole : List Str := ["value"]
theorem sc_is_whole : FnScope N_is_whole ["value"] (defScope s_is_whole) := ⟨rfl, rfl, rfl, by decide +kernel, rfl, by decide +kernel, by decide +kernel⟩
abbrev s_is_level : Stmt := topS 9
abbrev N_is_level : List Str := ["value"]
theorem sc_is_level : FnScope N_is_level ["value"] (defScope s_is_level) := ⟨rfl, rfl, rfl, by decide +kernel, rfl, by decide +kernel, by decide +kernel⟩
abbrev s_number_of : Stmt := topS 12
abbrev N_number_of : List Str := ["word", "digits", "number"]
theorem sc_number_of : FnScope N_number_of ["word"] (defScope s_number_of) := ⟨rfl, rfl, rfl, by decide +kernel, rfl, by decide +kernel, by decide +kernel⟩
abbrev s_count_in : Stmt := topS 13
abbrev N_count_in : List Str := ["line", "words", "count"]
theorem sc_count_in : FnScope N_count_in ["line"] (defScope s_count_in) := ⟨rfl, rfl, rfl, by decide +kernel, rfl, by decide +kernel, by decide +kernel⟩
abbrev s_row_in : Stmt := topS 14
abbrev N_row_in : List Str := ["line", "size", "words", "levels", "word", "level"]
theorem sc_row_in : FnScope N_row_in ["line", "size"] (defScope s_row_in) := ⟨rfl, rfl, rfl, by decide +kernel, rfl, by decide +kernel, by decide +kernel⟩
abbrev s_parse_lines : Stmt := topS 15
abbrev N_parse_lines : List Str := ["lines", "count", "rows", "at", "line", "row"]
theorem sc_parse_lines : FnScope N_parse_lines ["lines"] (defScope s_parse_lines) := ⟨rfl, rfl, rfl, by decide +kernel, rfl, by decide +kernel, by decide +kernel⟩
abbrev s_parse_table : Stmt := topS 16
abbrev N_parse_table : List Str := ["value", "lines", "rest", "count", "rows"]
theorem sc_parse_table : FnScope N_parse_table ["value"] (defScope s_parse_table) := ⟨rfl, rfl, rfl, by decide +kernel, rfl, by decide +kernel, by decide +kernel⟩
abbrev s_L_draws : Stmt := topS 18
abbrev N_L_draws : List Str := ["_law_script", "_law_cells", "_law_cell"]
theorem sc_L_draws : FnScope N_L_draws ["_law_script"] (defScope s_L_draws) := ⟨rfl, rfl, rfl, by decide +kernel, rfl, by decide +kernel, by decide +kernel⟩
abbrev s_L_next : Stmt := topS 19
abbrev N_L_next : List Str := ["_law_drawn", "_law_many", "_law_cells", "_law_turn", "_law_rests", "_law_spot", "_law_digit", "_law_mixed", "_law_again"]
theorem sc_L_next : FnScope N_L_next ["_law_drawn", "_law_many"] (defScope s_L_next) := ⟨rfl, rfl, rfl, by decide +kernel, rfl, by decide +kernel, by decide +kernel⟩
abbrev s_L_one : Stmt := topS 20
abbrev N_L_one : List Str := ["_law_drawn", "_law_items"]
theorem sc_L_one : FnScope N_L_one ["_law_drawn", "_law_items"] (defScope s_L_one) := ⟨rfl, rfl, rfl, by decide +kernel, rfl, by decide +kernel, by decide +kernel⟩
abbrev s_L_odd : Stmt := topS 21
abbrev N_L_odd : List Str := ["_law_drawn", "_law_some"]
theorem sc_L_odd : FnScope N_L_odd ["_law_drawn"] (defScope s_L_odd) := ⟨rfl, rfl, rfl, by decide +kernel, rfl, by decide +kernel, by decide +kernel⟩
abbrev s_L_count : Stmt := topS 22
abbrev N_L_count : List Str := ["_law_drawn", "_law_most"]
theorem sc_L_count : FnScope N_L_count ["_law_drawn", "_law_most"] (defScope s_L_count) := ⟨rfl, rfl, rfl, by decide +kernel, rfl, by decide +kernel, by decide +kernel⟩
abbrev s_L_grades : Stmt := topS 23
abbrev N_L_grades : List Str := ["_law_drawn", "_law_way", "_law_many", "_law_wide", "_law_found", "_law_k"]
theorem sc_L_grades : FnScope N_L_grades ["_law_drawn"] (defScope s_L_grades) := ⟨rfl, rfl, rfl, by decide +kernel, rfl, by decide +kernel, by decide +kernel⟩
abbrev s_L_level : Stmt := topS 24
abbrev N_L_level : List Str := ["_law_table_here", "_law_one_here", "_law_other", "_law_low", "_law_high"]
theorem sc_L_level : FnScope N_L_level ["_law_table_here", "_law_one_here", "_law_other"] (defScope s_L_level) := ⟨rfl, rfl, rfl, by decide +kernel, rfl, by decide +kernel, by decide +kernel⟩
abbrev s_L_nested : Stmt := topS 25
abbrev N_L_nested : List Str := ["_law_drawn", "_law_count_here", "_law_grades_here", "_law_rows", "_law_near", "_law_level_here", "_law_row", "_law_k"]
theorem sc_L_nested : FnScope N_L_nested ["_law_drawn", "_law_count_here", "_law_grades_here"] (defScope s_L_nested) := ⟨rfl, rfl, rfl, by decide +kernel, rfl, by decide +kernel, by decide +kernel⟩
abbrev s_L_raised : Stmt := topS 26
abbrev N_L_raised : List Str := ["_law_drawn", "_law_table_here", "_law_grades_here", "_law_found", "_law_row", "_law_level_here"]
theorem sc_L_raised : FnScope N_L_raised ["_law_drawn", "_law_table_here", "_law_grades_here"] (defScope s_L_raised) := ⟨rfl, rfl, rfl, by decide +kernel, rfl, by decide +kernel, by decide +kernel⟩
abbrev s_L_levels : Stmt := topS 27
abbrev N_L_levels : List Str := ["_law_drawn", "_law_many", "_law_grades_here", "_law_k"]
theorem sc_L_levels : FnScope N_L_levels ["_law_drawn", "_law_many", "_law_grades_here"] (defScope s_L_levels) := ⟨rfl, rfl, rfl, by decide +kernel, rfl, by decide +kernel, by decide +kernel⟩
abbrev s_L_any : Stmt := topS 28
abbrev N_L_any : List Str := ["_law_drawn", "_law_many", "_law_wide", "_law_k"]
theorem sc_L_any : FnScope N_L_any ["_law_drawn", "_law_many", "_law_wide"] (defScope s_L_any) := ⟨rfl, rfl, rfl, by decide +kernel, rfl, by decide +kernel, by decide +kernel⟩
abbrev s_L_table : Stmt := topS 29
abbrev N_L_table : List Str := ["_law_drawn", "_law_count_here", "_law_grades_here", "_law_way", "_law_one_here", "_law_wide", "_law_table_here", "_law_other", "_law_level_here", "_law_row"]
theorem sc_L_table : FnScope N_L_table ["_law_drawn", "_law_count_here"] (defScope s_L_table) := ⟨rfl, rfl, rfl, by decide +kernel, rfl, by decide +kernel, by decide +kernel⟩
abbrev s_L_table_text : Stmt := topS 30
abbrev N_L_table_text : List Str := ["_law_table_here", "_law_words", "_law_row", "_law_level_here"]
theorem sc_L_table_text : FnScope N_L_table_text ["_law_table_here"] (defScope s_L_table_text) := ⟨rfl, rfl, rfl, by decide +kernel, rfl, by decide +kernel, by decide +kernel⟩
abbrev s_L_number : Stmt := topS 31
abbrev N_L_number : List Str := ["_law_word", "_law_sign"]
theorem sc_L_number : FnScope N_L_number ["_law_word"] (defScope s_L_number) := ⟨rfl, rfl, rfl, by decide +kernel, rfl, by decide +kernel, by decide +kernel⟩
abbrev s_L_reading : Stmt := topS 32
abbrev N_L_reading : List Str := ["_law_value", "_law_lines", "_law_last", "_law_heads", "_law_count_here", "_law_rows", "_law_number_here", "_law_words", "_law_row", "_law_k", "_law_word"]
theorem sc_L_reading : FnScope N_L_reading ["_law_value"] (defScope s_L_reading) := ⟨rfl, rfl, rfl, by decide +kernel, rfl, by decide +kernel, by decide +kernel⟩
abbrev s_L_bent_word : Stmt := topS 33
abbrev N_L_bent_word : List Str := ["_law_drawn", "_law_line", "_law_words", "_law_way", "_law_at", "_law_spot", "_law_some", "_law_new", "_law_sign"]
theorem sc_L_bent_word : FnScope N_L_bent_word ["_law_drawn", "_law_line"] (defScope s_L_bent_word) := ⟨rfl, rfl, rfl, by decide +kernel, rfl, by decide +kernel, by decide +kernel⟩
abbrev s_L_bent : Stmt := topS 34
abbrev N_L_bent : List Str := ["_law_drawn", "_law_words", "_law_lines", "_law_way", "_law_at", "_law_some"]
theorem sc_L_bent : FnScope N_L_bent ["_law_drawn", "_law_words"] (defScope s_L_bent) := ⟨rfl, rfl, rfl, by decide +kernel, rfl, by decide +kernel, by decide +kernel⟩
abbrev s_L_told : Stmt := topS 35
abbrev N_L_told : List Str := ["_law_value", "error", "_law_alone"]
theorem sc_L_told : FnScope N_L_told ["_law_value"] (defScope s_L_told) := ⟨rfl, rfl, rfl, by decide +kernel, rfl, by decide +kernel, by decide +kernel⟩
abbrev s_L_written : Stmt := topS 36
abbrev N_L_written : List Str := ["_law_drawn", "_law_level_here", "_law_found"]
theorem sc_L_written : FnScope N_L_written ["_law_drawn"] (defScope s_L_written) := ⟨rfl, rfl, rfl, by decide +kernel, rfl, by decide +kernel, by decide +kernel⟩
abbrev s_L_values : Stmt := topS 37
abbrev N_L_values : List Str := ["_law_drawn", "_law_table_here", "_law_words", "_law_found", "_law_turn", "_law_bent_here"]
theorem sc_L_values : FnScope N_L_values ["_law_drawn"] (defScope s_L_values) := ⟨rfl, rfl, rfl, by decide +kernel, rfl, by decide +kernel, by decide +kernel⟩
abbrev s_law : Stmt := topS 38
abbrev N_law : List Str := ["_law_script", "_law_drawn", "_law_turn", "_law_value", "_law_shown", "_law_due"]
theorem sc_law : FnScope N_law ["_law_script"] (defScope s_law) := ⟨rfl, rfl, rfl, by decide +kernel, rfl, by decide +kernel, by decide +kernel⟩
def hfs0 : List Ft := [
  fun K => decide (PySem.W.nsIn K mainGlobals "is_whole" = some (some (.ref (He.ga K "is_whole")))),
  fun K => PySem.W.keepIn K (.ref (He.ga K "is_whole")),
  fun K => decide (PySem.W.nsIn K mainGlobals "is_level" = some (some (.ref (He.ga K "is_level")))),
  fun K => PySem.W.keepIn K (.ref (He.ga K "is_level")),
  fun K => decide (PySem.W.nsIn K mainGlobals "number_of" = some (some (.ref (He.ga K "number_of")))),
  fun K => PySem.W.keepIn K (.ref (He.ga K "number_of")),
  fun K => decide (PySem.W.nsIn K mainGlobals "count_in" = some (some (.ref (He.ga K "count_in")))),
  fun K => PySem.W.keepIn K (.ref (He.ga K "count_in")),
  fun K => decide (PySem.W.nsIn K mainGlobals "row_in" = some (some (.ref (He.ga K "row_in")))),
  fun K => PySem.W.keepIn K (.ref (He.ga K "row_in")),
  fun K => decide (PySem.W.nsIn K mainGlobals "parse_lines" = some (some (.ref (He.ga K "parse_lines")))),
  fun K => PySem.W.keepIn K (.ref (He.ga K "parse_lines")),
  fun K => decide (PySem.W.nsIn K mainGlobals "parse_table" = some (some (.ref (He.ga K "parse_table")))),
  fun K => PySem.W.keepIn K (.ref (He.ga K "parse_table")),
  fun K => decide (PySem.W.nsIn K mainGlobals "_law_draws" = some (some (.ref (He.ga K "_law_draws")))),
  fun K => PySem.W.keepIn K (.ref (He.ga K "_law_draws")),
  fun K => decide (PySem.W.nsIn K mainGlobals "_law_next" = some (some (.ref (He.ga K "_law_next")))),
  fun K => PySem.W.keepIn K (.ref (He.ga K "_law_next")),
  fun K => decide (PySem.W.nsIn K mainGlobals "_law_one" = some (some (.ref (He.ga K "_law_one")))),
  fun K => PySem.W.keepIn K (.ref (He.ga K "_law_one")),
  fun K => decide (PySem.W.nsIn K mainGlobals "_law_odd" = some (some (.ref (He.ga K "_law_odd")))),
  fun K => PySem.W.keepIn K (.ref (He.ga K "_law_odd")),
  fun K => decide (PySem.W.nsIn K mainGlobals "_law_count" = some (some (.ref (He.ga K "_law_count")))),
  fun K => PySem.W.keepIn K (.ref (He.ga K "_law_count")),
  fun K => decide (PySem.W.nsIn K mainGlobals "_law_grades" = some (some (.ref (He.ga K "_law_grades")))),
  fun K => PySem.W.keepIn K (.ref (He.ga K "_law_grades")),
  fun K => decide (PySem.W.nsIn K mainGlobals "_law_level" = some (some (.ref (He.ga K "_law_level")))),
  fun K => PySem.W.keepIn K (.ref (He.ga K "_law_level")),
  fun K => decide (PySem.W.nsIn K mainGlobals "_law_nested" = some (some (.ref (He.ga K "_law_nested")))),
  fun K => PySem.W.keepIn K (.ref (He.ga K "_law_nested"))]
def hfs1 : List Ft := [
  fun K => decide (PySem.W.nsIn K mainGlobals "_law_raised" = some (some (.ref (He.ga K "_law_raised")))),
  fun K => PySem.W.keepIn K (.ref (He.ga K "_law_raised")),
  fun K => decide (PySem.W.nsIn K mainGlobals "_law_levels" = some (some (.ref (He.ga K "_law_levels")))),
  fun K => PySem.W.keepIn K (.ref (He.ga K "_law_levels")),
  fun K => decide (PySem.W.nsIn K mainGlobals "_law_any" = some (some (.ref (He.ga K "_law_any")))),
  fun K => PySem.W.keepIn K (.ref (He.ga K "_law_any")),
  fun K => decide (PySem.W.nsIn K mainGlobals "_law_table" = some (some (.ref (He.ga K "_law_table")))),
  fun K => PySem.W.keepIn K (.ref (He.ga K "_law_table")),
  fun K => decide (PySem.W.nsIn K mainGlobals "_law_table_text" = some (some (.ref (He.ga K "_law_table_text")))),
  fun K => PySem.W.keepIn K (.ref (He.ga K "_law_table_text")),
  fun K => decide (PySem.W.nsIn K mainGlobals "_law_number" = some (some (.ref (He.ga K "_law_number")))),
  fun K => PySem.W.keepIn K (.ref (He.ga K "_law_number")),
  fun K => decide (PySem.W.nsIn K mainGlobals "_law_reading" = some (some (.ref (He.ga K "_law_reading")))),
  fun K => PySem.W.keepIn K (.ref (He.ga K "_law_reading")),
  fun K => decide (PySem.W.nsIn K mainGlobals "_law_bent_word" = some (some (.ref (He.ga K "_law_bent_word")))),
  fun K => PySem.W.keepIn K (.ref (He.ga K "_law_bent_word")),
  fun K => decide (PySem.W.nsIn K mainGlobals "_law_bent" = some (some (.ref (He.ga K "_law_bent")))),
  fun K => PySem.W.keepIn K (.ref (He.ga K "_law_bent")),
  fun K => decide (PySem.W.nsIn K mainGlobals "_law_told" = some (some (.ref (He.ga K "_law_told")))),
  fun K => PySem.W.keepIn K (.ref (He.ga K "_law_told")),
  fun K => decide (PySem.W.nsIn K mainGlobals "_law_written" = some (some (.ref (He.ga K "_law_written")))),
  fun K => PySem.W.keepIn K (.ref (He.ga K "_law_written")),
  fun K => decide (PySem.W.nsIn K mainGlobals "_law_values" = some (some (.ref (He.ga K "_law_values")))),
  fun K => PySem.W.keepIn K (.ref (He.ga K "_law_values")),
  fun K => decide (PySem.W.nsIn K mainGlobals "law" = some (some (.ref (He.ga K "law")))),
  fun K => PySem.W.keepIn K (.ref (He.ga K "law")),
  fun K => decide (PySem.W.nsIn K mainGlobals "ParseError" = some (some (.ref (He.ga K "ParseError")))),
  fun K => PySem.W.excInitIn K (He.ga K "ParseError") [.type "ValueError", .type "Exception", .type "BaseException", .type "object"] "ValueError.__new__",
  fun K => mroB K (He.ga K "ParseError") [.ref (He.ga K "MergeError"), .type "ValueError", .type "Exception", .type "BaseException", .type "object"],
  fun K => decide (PySem.W.findIn K (.ref (He.ga K "ParseError")) "__setattr__" = some (some (.builtin "object.__setattr__")))]
def hfs2 : List Ft := [
  fun K => decide (PySem.W.findIn K (.ref (He.ga K "ParseError")) "__getattribute__" = some (some (.builtin "BaseException.__getattribute__"))),
  fun K => decide (PySem.W.findIn K (.ref (He.ga K "ParseError")) "__getattr__" = some none),
  fun K => decide (PySem.W.findIn K (.ref (He.ga K "ParseError")) "place" = some none),
  fun K => decide (PySem.W.findIn K (.ref (He.ga K "ParseError")) "__init__" = some (some (.ref (He.ma K (He.ga K "ParseError") "__init__")))),
  fun K => decide (PySem.W.typeIn K (.ref (He.ma K (He.ga K "ParseError") "__init__")) = some (.type "function")),
  fun K => kvB K (He.ma K (He.ga K "ParseError") "__init__") .none,
  fun K => PySem.W.keepIn K (.ref (He.ga K "ParseError")),
  fun K => decide (PySem.W.subIn K (.ref (He.ga K "ParseError")) (.type "BaseException") = some true),
  fun K => decide (PySem.W.typeIn K (.ref (He.ga K "ParseError")) = some (.type "type")),
  fun K => PySem.W.hasDictIn K (He.ga K "ParseError"),
  fun K => decide (PySem.W.exmOne K (.ref (He.ga K "ParseError")) (.ref (He.ga K "ParseError")) = some true),
  fun K => decide (PySem.W.findIn K (.ref (He.ga K "ParseError")) "__class__" = some (some (.builtin "object.__class__"))),
  fun K => decide (PySem.W.specialIn K (.builtin "object.__class__") "__get__" = some (some (.builtin "getset_descriptor.__get__"))),
  fun K => decide (PySem.W.takesIn K (.builtin "object.__class__") = some true),
  fun K => decide (PySem.W.mroIn K (He.ga K "ParseError") (.type "object") = some true),
  fun K => decide (PySem.W.nsIn K mainGlobals "MergeError" = some (some (.ref (He.ga K "MergeError")))),
  fun K => decide (PySem.W.nsIn K mainGlobals "InvalidTable" = some (some (.ref (He.ga K "InvalidTable")))),
  fun K => decide (PySem.W.nsIn K mainGlobals "UnequalSizes" = some (some (.ref (He.ga K "UnequalSizes")))),
  fun K => decide (PySem.W.nsIn K mainGlobals "LookupError" = some none),
  fun K => decide (PySem.W.kitOne K (.ref (He.ga K "ParseError")) (.ref (He.ga K "MergeError")) = some true),
  fun K => decide (PySem.W.kitAny K (.ref (He.ga K "ParseError")) [.ref (He.ga K "InvalidTable"), .ref (He.ga K "UnequalSizes"), .type "LookupError"] = some false),
  fun K => decide (PySem.W.nsIn K mainGlobals "ITEMS" = some (some (.int 12 (tkG K "ITEMS")))),
  fun K => decide (PySem.W.nsIn K mainGlobals "LEVEL" = some (some (.int 1000000000000 (tkG K "LEVEL")))),
  fun K => decide (PySem.W.nsIn K mainGlobals "DIGITS" = some (some (.int 13 (tkG K "DIGITS")))),
  fun K => decide (PySem.W.nsIn K mainGlobals "len" = some none),
  fun K => decide (PySem.W.nsIn K mainGlobals "list" = some none),
  fun K => decide (PySem.W.nsIn K mainGlobals "int" = some none),
  fun K => decide (PySem.W.nsIn K mainGlobals "range" = some none),
  fun K => decide (PySem.W.nsIn K mainGlobals "sorted" = some none),
  fun K => decide (PySem.W.nsIn K mainGlobals "set" = some none)]
def hfs3 : List Ft := [
  fun K => decide (PySem.W.nsIn K mainGlobals "tuple" = some none),
  fun K => decide (PySem.W.nsIn K mainGlobals "min" = some none),
  fun K => decide (PySem.W.nsIn K mainGlobals "max" = some none),
  fun K => decide (PySem.W.nsIn K mainGlobals "isinstance" = some none),
  fun K => decide (PySem.W.nsIn K mainGlobals "bool" = some none),
  fun K => decide (PySem.W.nsIn K mainGlobals "str" = some none),
  fun K => decide (PySem.W.nsIn K mainGlobals "all" = some none),
  fun K => decide (PySem.W.nsIn K mainGlobals "zip" = some none),
  fun K => decide (PySem.W.nsIn K mainGlobals "repr" = some none),
  fun K => decide (PySem.W.nsIn K mainGlobals "enumerate" = some none),
  fun K => decide (PySem.W.nsIn K mainGlobals "abs" = some none),
  fun K => decide (PySem.W.nsIn K mainGlobals "sum" = some none),
  fun K => decide (PySem.W.nsIn K mainGlobals "dict" = some none)]
def hfp0 : List Ft := hfs0 ++ hfs1 ++ hfs2 ++ hfs3
def hfs : List (List Ft) := [hfp0]
def hfn0 : List DefE := [
  ⟨fun K => (He.ga K "is_whole"), "is_whole", "is_whole", (defArgs s_is_whole), (defBody s_is_whole), (defScope s_is_whole)⟩,
  ⟨fun K => (He.ga K "is_level"), "is_level", "is_level", (defArgs s_is_level), (defBody s_is_level), (defScope s_is_level)⟩,
  ⟨fun K => (He.ga K "number_of"), "number_of", "number_of", (defArgs s_number_of), (defBody s_number_of), (defScope s_number_of)⟩,
  ⟨fun K => (He.ga K "count_in"), "count_in", "count_in", (defArgs s_count_in), (defBody s_count_in), (defScope s_count_in)⟩,
  ⟨fun K => (He.ga K "row_in"), "row_in", "row_in", (defArgs s_row_in), (defBody s_row_in), (defScope s_row_in)⟩,
  ⟨fun K => (He.ga K "parse_lines"), "parse_lines", "parse_lines", (defArgs s_parse_lines), (defBody s_parse_lines), (defScope s_parse_lines)⟩,
  ⟨fun K => (He.ga K "parse_table"), "parse_table", "parse_table", (defArgs s_parse_table), (defBody s_parse_table), (defScope s_parse_table)⟩,
  ⟨fun K => (He.ga K "_law_draws"), "_law_draws", "_law_draws", (defArgs s_L_draws), (defBody s_L_draws), (defScope s_L_draws)⟩,
  ⟨fun K => (He.ga K "_law_next"), "_law_next", "_law_next", (defArgs s_L_next), (defBody s_L_next), (defScope s_L_next)⟩,
  ⟨fun K => (He.ga K "_law_one"), "_law_one", "_law_one", (defArgs s_L_one), (defBody s_L_one), (defScope s_L_one)⟩,
  ⟨fun K => (He.ga K "_law_odd"), "_law_odd", "_law_odd", (defArgs s_L_odd), (defBody s_L_odd), (defScope s_L_odd)⟩,
  ⟨fun K => (He.ga K "_law_count"), "_law_count", "_law_count", (defArgs s_L_count), (defBody s_L_count), (defScope s_L_count)⟩,
  ⟨fun K => (He.ga K "_law_grades"), "_law_grades", "_law_grades", (defArgs s_L_grades), (defBody s_L_grades), (defScope s_L_grades)⟩,
  ⟨fun K => (He.ga K "_law_level"), "_law_level", "_law_level", (defArgs s_L_level), (defBody s_L_level), (defScope s_L_level)⟩,
  ⟨fun K => (He.ga K "_law_nested"), "_law_nested", "_law_nested", (defArgs s_L_nested), (defBody s_L_nested), (defScope s_L_nested)⟩,
  ⟨fun K => (He.ga K "_law_raised"), "_law_raised", "_law_raised", (defArgs s_L_raised), (defBody s_L_raised), (defScope s_L_raised)⟩,
  ⟨fun K => (He.ga K "_law_levels"), "_law_levels", "_law_levels", (defArgs s_L_levels), (defBody s_L_levels), (defScope s_L_levels)⟩,
  ⟨fun K => (He.ga K "_law_any"), "_law_any", "_law_any", (defArgs s_L_any), (defBody s_L_any), (defScope s_L_any)⟩,
  ⟨fun K => (He.ga K "_law_table"), "_law_table", "_law_table", (defArgs s_L_table), (defBody s_L_table), (defScope s_L_table)⟩,
  ⟨fun K => (He.ga K "_law_table_text"), "_law_table_text", "_law_table_text", (defArgs s_L_table_text), (defBody s_L_table_text), (defScope s_L_table_text)⟩,
  ⟨fun K => (He.ga K "_law_number"), "_law_number", "_law_number", (defArgs s_L_number), (defBody s_L_number), (defScope s_L_number)⟩,
  ⟨fun K => (He.ga K "_law_reading"), "_law_reading", "_law_reading", (defArgs s_L_reading), (defBody s_L_reading), (defScope s_L_reading)⟩,
  ⟨fun K => (He.ga K "_law_bent_word"), "_law_bent_word", "_law_bent_word", (defArgs s_L_bent_word), (defBody s_L_bent_word), (defScope s_L_bent_word)⟩,
  ⟨fun K => (He.ga K "_law_bent"), "_law_bent", "_law_bent", (defArgs s_L_bent), (defBody s_L_bent), (defScope s_L_bent)⟩,
  ⟨fun K => (He.ga K "_law_told"), "_law_told", "_law_told", (defArgs s_L_told), (defBody s_L_told), (defScope s_L_told)⟩]
def hfn1 : List DefE := [
  ⟨fun K => (He.ga K "_law_written"), "_law_written", "_law_written", (defArgs s_L_written), (defBody s_L_written), (defScope s_L_written)⟩,
  ⟨fun K => (He.ga K "_law_values"), "_law_values", "_law_values", (defArgs s_L_values), (defBody s_L_values), (defScope s_L_values)⟩,
  ⟨fun K => (He.ga K "law"), "law", "law", (defArgs s_law), (defBody s_law), (defScope s_law)⟩,
  ⟨fun K => (He.ma K (He.ga K "ParseError") "__init__"), "__init__", "ParseError.__init__", (PySem.Err_ParseError.iA ⟨17, 17, 17, 21⟩ ⟨17, 23, 17, 28⟩), (PySem.Err_ParseError.iB ⟨18, 8, 18, 12⟩ ⟨18, 8, 18, 18⟩ ⟨18, 21, 18, 26⟩ ⟨18, 8, 18, 26⟩), PySem.Err_ParseError.iS⟩]
def hfn : List DefE := hfn0 ++ hfn1
def hlo0 : List Str := ["ITEMS", "LEVEL", "__name__", "MergeError", "InvalidTable", "UnequalSizes", "ParseError", "is_whole", "is_level", "DIGITS", "number_of", "count_in", "row_in", "parse_lines", "parse_table", "_law_draws", "_law_next", "_law_one", "_law_odd", "_law_count", "_law_grades", "_law_level", "_law_nested", "_law_raised", "_law_levels"]
def hlo1 : List Str := ["_law_any", "_law_table", "_law_table_text", "_law_number", "_law_reading", "_law_bent_word", "_law_bent", "_law_told", "_law_written", "_law_values"]
def hlo : List Str := hlo0 ++ hlo1
abbrev hR : PySem.W.OpenRow := PySem.W.OpenLaw.row PySem.Challenge.rw_mergelevels_k79_other_texts_of_tables
def hhx (K : PySem.W.Frag) : List Int := []
def hhv (w : World) : List Int := []
abbrev hk : PySem.W.Hook := hook3 5 hfs hfn hhx hhv
def hq : Program := PySem.W.view hR.prog [38]
set_option maxHeartbeats 0 in
theorem hrA (w : World) (os : OsState) : (HandSHeadRun.endF (HandSHeadRun.stepQ (HandSHeadRun.denQ HandSHeadRun.tabQ) hR.prog w) 20000 hR.prog w os).map (fun s => HandSHeadRun.looksF hR.prog (PySem.W.boot_heap w.params) s.abs) = some true := by kernel_rfl
set_option maxHeartbeats 0 in
theorem hrB (w : World) (os : OsState) : (HandSHeadRun.endF (HandSHeadRun.stepQ (HandSHeadRun.denQ HandSHeadRun.tabQ) hR.prog w) 20000 hR.prog w os).map (fun s => HandSHeadRun.seenQ (PySem.W.view hR.prog [38]) hlo (PySem.importedModules hR.prog.main.body) (fun s => PySem.W.xlAt (PySem.W.view hR.prog [38]) [] s && PySem.W.recOk hR.toRowW.records s) s.abs) = some (PySem.W.openGood (PySem.W.view hR.prog [38]) hlo) := by kernel_rfl
set_option maxHeartbeats 0 in
theorem hrF0 (w : World) (os : OsState) : (HandSHeadRun.endF (HandSHeadRun.stepQ (HandSHeadRun.denQ HandSHeadRun.tabQ) hR.prog w) 20000 hR.prog w os).map (fun s => hfp0.all fun f => f (kOf 5 s)) = some true := by kernel_rfl
set_option maxHeartbeats 0 in
theorem hrD (w : World) (os : OsState) : (HandSHeadRun.endF (HandSHeadRun.stepQ (HandSHeadRun.denQ HandSHeadRun.tabQ) hR.prog w) 20000 hR.prog w os).map (fun s => ((hfn.all fun d => d.ok (kOf 5 s), hfn.map fun d => d.obs (kOf 5 s)), hhx (kOf 5 s))) = some ((true, hfn.map DefE.val), hhv w) := by kernel_rfl
theorem hrun (w : World) : HandSHeadRun.RunEq hR (PySem.W.view hR.prog [38]) hk (ob3 5 hfs hfn hhx) 20000 hlo w := run_of3 (hrA w) (hrB w) (fun l hl => by
  simp only [hfs, List.mem_cons, List.not_mem_nil, or_false] at hl
  rcases hl with rfl
  exact hrF0 w) (hrD w)
/-! ### the names of the module -/
structure Bi (mg : Str → Option Value) : Prop where
  len : mg "len" = none
  list : mg "list" = none
  int : mg "int" = none
  range : mg "range" = none
  sorted : mg "sorted" = none
  set : mg "set" = none
  tuple : mg "tuple" = none
  min : mg "min" = none
  max : mg "max" = none
  isinstance : mg "isinstance" = none
  bool : mg "bool" = none
  str : mg "str" = none
  all : mg "all" = none
  zip : mg "zip" = none
  repr : mg "repr" = none
  enumerate : mg "enumerate" = none
  abs : mg "abs" = none
  sum : mg "sum" = none
  dict : mg "dict" = none
structure Df (K : PySem.W.Frag) (mg : Str → Option Value) (x : Str) (st : Stmt) (f : Addr) (fd : FuncData) (ps : List Str) : Prop where
  F : Fun K x x st f fd
  b : Binds K fd ps []
  g : mg x = some (.ref f)
section
variable {X : Cx} {k : Nat} {f : Addr} {fd : FuncData} {ps : List Str} {sp : Sp} {x : Str} {p pos : Pos} {e : Expr} {es : List Expr} {t : TA} {st : Stmt}
theorem pe_cl (D : Df X.K X.mg x st f fd ps) (G : FnOk X.prog X.w X.K X.mg X.base CX0 k f fd ps sp) (hr : Room k X.A) (ha : PA X (e :: es) t) (hg : Gl X x := by rfl) (hdb : (x == ("__debug__" : Str)) = false := by decide)
    (he : starEach (e :: es) X.env = (false, eval e X.env) :: starEach es X.env := by rfl) (hpl : (backTo pos (starEach es X.env)).any (·.1) = false := by rfl) : PE X (.Call (.Name x p) (e :: es) [] pos) (tCall sp [] E0 t) :=
  pe_call G hr hg D.g D.F.kp D.b .nil pass0 ha hdb he hpl
theorem pe_len {a : Expr} {ta : TE} (B : Bi X.mg) (ha : PE X a ta) (hg : Gl X "len" := by rfl) (he : starEach [a] X.env = (false, eval a X.env) :: starEach [] X.env := by rfl) :
    PE X (.Call (.Name "len" p) [a] [] pos) (tCB (fun xs H Q => ∃ p ys, xs = [.ref p] ∧ (SqL X.K H p ys ∨ SqT X.K H p ys) ∧ Q (.int ys.length) H) (tCons ta tNil)) :=
  pe_callB call_len_seq hg B.len PySem.boot_len (pa_cons ha pa_nil he) (by decide) (by decide) he
end
section
variable {P : Program} {w : World} {K : PySem.W.Frag} {mg : Str → Option Value} {base : Heap}
/-! ### drawing -/
def sp_next : Sp := fun vs H Q _ => ∃ (d c r : Addr) (n : Nat) (m : Int), vs = [.ref d, .int m] ∧ Dr H d c r n ∧ n ≤ 900000 ∧ 0 < m ∧ m ≤ 1000000000000000000000000000000 ∧
  ∀ (H' : Hp) (k : Nat), (k : Int) < m → Dr H' d c r (n + 1) → Kp d r H H' → Q (.int (k : Int)) H'
theorem ok_next {f : Addr} {fd : FuncData} {k : Nat} (F : Fun K "_law_next" "_law_next" s_L_next f fd) (B : Bi mg) : FnOk P w K mg base CX0 (k + 1) f fd ["_law_drawn", "_law_many"] sp_next := by
  refine F.ok sc_L_next (fun vs H Q E h => ?_) (fun cdv A outer s H vs Q E hr h => ?_)
  · obtain ⟨d, c, r, n, m, rfl, _⟩ := h
    rfl
  · obtain ⟨d, c, r, n, m, rfl, hD, hn, hm0, hm1, q⟩ := h
    have nd := sc_L_next.nd
    refine ⟨_, pss_cons (ps_asg (pv 0) (pg_unl rfl (pgs_cons (pg_name (i := 2) nd rfl (.inl rfl)) (pgs_cons (pg_name (i := 3) nd rfl (.inl rfl)) (pgs_cons (pg_name (i := 4) nd rfl (.inl rfl)) pgs_nil)))))
      (pss_cons (ps_set (i := 5) nd rfl (.inl rfl) (pe_op op_mod (pv 3) (pe_len B (pv 2))))
      (pss_cons (ps_asg (pe_op op_add (pv 3) pe_int) (pg_sub (pv 0) pe_int set_list))
      (pss_cons (ps_if (pt_cmpR op_gt (pe_ix ix_list (pv 4) (pv 5) (fun _ _ => rfl)) pe_int (nomark _))
        (pss_cons (ps_set (i := 6) nd rfl (.inl rfl) (pe_op op_mod (pe_ix ix_list (pv 4) (pv 5) (fun _ _ => rfl)) (pv 1)))
        (pss_cons (ps_asg (pe_op op_fdivW (pe_ix ix_list (pv 4) (pv 5) (fun _ _ => rfl)) (pv 1)) (pg_sub (pv 4) (pv 5) set_list))
        (pss_one (ps_ret (pv 6))))) pss_nil)
      (pss_cons (ps_set (i := 7) nd rfl (.inl rfl) (pe_op op_mod (pe_op op_pow (pe_op op_add (pe_op op_add (pe_op op_mod (pe_ix ix_list (pv 2) (pv 5) (fun _ _ => rfl)) pe_int) (pe_op op_mul pe_int (pv 3))) pe_int) pe_int) pe_int))
      (pss_cons (ps_set (i := 8) nd rfl (.inl rfl) (pe_op op_mod (pe_op op_pow (pe_op op_add (pe_op op_add (pv 7) (pe_op op_mul (pe_op op_mul pe_int (pv 3)) (pv 3))) pe_int) pe_int) pe_int))
      (pss_one (ps_ret (pe_op op_mod (pe_op op_mod (pe_op op_add (pe_op op_mul (pv 8) pe_int) (pv 7)) pe_int) (pv 1))))))))), ?_⟩
    obtain ⟨⟨cells, rests, t, hd, hc, hr', hlen, h0, h64, ht, hpos⟩, dc, dr, cr⟩ := hD
    -- the three names
    refine ⟨.ref d, rfl, d, _, rfl, SqL.of hd, rfl, _, _, rfl, _, _, rfl, _, _, rfl, rfl, ?_⟩
    -- the place
    refine ⟨.int (t : Int), rfl, .ref c, rfl, c, _, rfl, .inl (SqL.of hc), _, _, rfl, rfl, by rw [List.length_map]; omega, ?_⟩
    obtain ⟨sp, hsp⟩ : ∃ sp : Nat, sp = t % cells.length := ⟨_, rfl⟩
    have esp : (t : Int) % ((cells.map V.int).length : Int) = (sp : Int) := by rw [List.length_map, hsp]; exact (Int.natCast_emod t cells.length).symm
    have lsp : sp < cells.length := by rw [hsp]; exact Nat.mod_lt _ h0
    have lsr : sp < rests.length := by omega
    dsimp only
    rw [esp]
    -- one more
    refine ⟨.int (t : Int), rfl, _, _, rfl, rfl, .ref d, rfl, d, _, 1, 1, rfl, rfl, hd, rfl, ?_⟩
    generalize hH1 : upd H d (.lst (List.set [.ref c, .int (t : Int), .ref r] 1 (.int ((t : Int) + 1)))) = H1
    have hd1 : H1 d = some (.lst [.ref c, .int ((t + 1 : Nat) : Int), .ref r]) := by rw [← hH1, upd_same]; rfl
    have hc1 : H1 c = some (.lst (cells.map V.int)) := by rw [← hH1, upd_ne dc.symm]; exact hc
    have hr1 : H1 r = some (.lst (rests.map V.int)) := by rw [← hH1, upd_ne dr.symm]; exact hr'
    have k1 : Kp d r H H1 := fun b o e n1 n2 => by rw [← hH1, upd_ne n1]; exact e
    have er := getD_at lsr
    have rAt : atI (rests.map V.int) (sp : Int) = some (.int (rests.getD sp 0)) := atI_nat (map_at er)
    have ec := getD_at lsp
    have cAt : atI (cells.map V.int) (sp : Int) = some (.int (cells.getD sp 0)) := atI_nat (map_at ec)
    refine ⟨.ref r, rfl, .int (sp : Int), rfl, r, _, _, _, rfl, rfl, SqL.of hr1, rAt, _, _, rfl, rfl, _, rfl, ite2 (fun hg => ?_) (fun hg => ?_)⟩
    · have hg : (0 : Int) < rests.getD sp 0 := of_decide_eq_true hg
      refine ⟨.ref r, rfl, .int (sp : Int), rfl, r, _, _, _, rfl, rfl, SqL.of hr1, rAt, .int m, rfl, _, _, rfl, rfl, hm0, ?_⟩
      refine ⟨.ref r, rfl, .int (sp : Int), rfl, r, _, _, _, rfl, rfl, SqL.of hr1, rAt, .int m, rfl, _, _, rfl, rfl, wide_div (b := 128) hm0 (by omega) (by decide) (by decide), ?_⟩
      refine ⟨.ref r, rfl, .int (sp : Int), rfl, r, _, _, sp, rfl, rfl, hr1, ixN_at (by rw [List.length_map]; exact lsr), ?_⟩
      refine ⟨_, rfl, ?_⟩
      have hz := Int.emod_nonneg (rests.getD sp 0) (by omega : m ≠ 0)
      have hl := Int.emod_lt_of_pos (rests.getD sp 0) hm0
      dsimp only
      rw [show rests.getD sp 0 % m = ((rests.getD sp 0 % m).toNat : Int) from (Int.toNat_of_nonneg hz).symm]
      refine q _ _ (by omega) ⟨⟨cells, rests.set sp (rests.getD sp 0 / m), t + 1, ?_, ?_, ?_, ?_, h0, h64, by omega, ?_⟩, dc, dr, cr⟩ ?_
      · rw [upd_ne dr]; exact hd1
      · rw [upd_ne cr]; exact hc1
      · rw [upd_same, List.map_set]
      · rw [List.length_set]; exact hlen
      · intro x hx
        rcases List.mem_or_eq_of_mem_set hx with hx | hx
        · exact hpos x hx
        · rw [hx]; exact Int.ediv_nonneg (Int.le_of_lt hg) (Int.le_of_lt hm0)
      · intro b o e n1 n2
        rw [upd_ne n2]
        exact k1 b o e n1 n2
    · have ht6 : t ≤ 900000 := Nat.le_trans ht hn
      have htt : t * t ≤ 900000 * 900000 := Nat.mul_le_mul ht6 ht6
      have httI : (t : Int) * (t : Int) ≤ 900000 * 900000 := Int.mul_le_mul (by omega) (by omega) (by omega) (by omega)
      have htt0 : (0 : Int) ≤ (t : Int) * (t : Int) := Int.mul_nonneg (by omega) (by omega)
      have c0 := Int.emod_nonneg (cells.getD sp 0) (show (2147483629 : Int) ≠ 0 by decide)
      have c1 := Int.emod_lt_of_pos (cells.getD sp 0) (show (0 : Int) < 2147483629 by decide)
      refine ⟨.ref c, rfl, .int (sp : Int), rfl, c, _, _, _, rfl, rfl, SqL.of hc1, cAt, _, _, rfl, rfl, (by show (0 : Int) < 2147483629; decide), .int (t : Int), rfl, _, _, rfl, rfl, .inl ⟨by decide, by decide⟩, _, _, rfl, rfl, _, _, rfl, rfl, _, _, rfl, rfl, ⟨by decide, by decide, by omega⟩, _, _, rfl, rfl, (by show (0 : Int) < 2147483587; decide), ?_⟩
      generalize hX : (cells.getD sp 0 % 2147483629 + 48611 * (t : Int) + 12007) ^ ((3 : Int).toNat) = X3
      have m0 := Int.emod_nonneg X3 (show (2147483587 : Int) ≠ 0 by decide)
      have m1 := Int.emod_lt_of_pos X3 (show (0 : Int) < 2147483587 by decide)
      have e3 : 6007 * (t : Int) * (t : Int) = 6007 * ((t : Int) * (t : Int)) := Int.mul_assoc _ _ _
      refine ⟨.int (X3 % 2147483587), rfl, .int (t : Int), rfl, _, _, rfl, rfl, .inl ⟨by decide, by decide⟩, .int (t : Int), rfl, _, _, rfl, rfl, .inr ⟨by omega, by omega⟩, _, _, rfl, rfl, _, _, rfl, rfl, _, _, rfl, rfl, ⟨by decide, by decide, by omega⟩, _, _, rfl, rfl, (by show (0 : Int) < 2147483563; decide), ?_⟩
      generalize hY : (X3 % 2147483587 + 6007 * (t : Int) * (t : Int) + 53) ^ ((3 : Int).toNat) = Y3
      refine ⟨.int (Y3 % 2147483563), rfl, _, _, rfl, rfl, .inr ⟨by decide, by decide⟩, .int (X3 % 2147483587), rfl, _, _, rfl, rfl, _, _, rfl, rfl, (by show (0 : Int) < 4611686018427387847; decide), .int m, rfl, _, _, rfl, rfl, hm0, ?_⟩
      generalize hZ : (Y3 % 2147483563 * 2147483423 + X3 % 2147483587) % 4611686018427387847 = Z
      have hz := Int.emod_nonneg Z (by omega : m ≠ 0)
      have hl := Int.emod_lt_of_pos Z hm0
      dsimp only
      rw [show Z % m = ((Z % m).toNat : Int) from (Int.toNat_of_nonneg hz).symm]
      exact q _ _ (by omega) ⟨⟨cells, rests, t + 1, hd1, hc1, hr1, hlen, h0, h64, by omega, hpos⟩, dc, dr, cr⟩ k1
end
section
variable {P : Program} {w : World} {K : PySem.W.Frag} {mg : Str → Option Value} {base : Heap}
def sp_one (K : PySem.W.Frag) : Sp := fun vs H Q _ => ∃ (d c r : Addr) (n : Nat) (l : Addr) (xs : List V), vs = [.ref d, .ref l] ∧ Dr H d c r n ∧ n ≤ 900000 ∧ SqL K H l xs ∧ l ≠ d ∧ l ≠ r ∧ 0 < xs.length ∧ xs.length ≤ 1000 ∧
  ∀ (H' : Hp) (i : Nat) (v : V), xs[i]? = some v → Dr H' d c r (n + 1) → Kp d r H H' → Q v H'
theorem ok_one {f fN : Addr} {fd fdN : FuncData} (F : Fun K "_law_one" "_law_one" s_L_one f fd) (DN : Df K mg "_law_next" s_L_next fN fdN ["_law_drawn", "_law_many"]) (B : Bi mg) : FnOk P w K mg base CX0 2 f fd ["_law_drawn", "_law_items"] (sp_one K) := by
  have GN : FnOk P w K mg base CX0 1 fN fdN ["_law_drawn", "_law_many"] sp_next := ok_next DN.F B
  refine F.ok sc_L_one (fun vs H Q E h => ?_) (fun cdv A outer s H vs Q E hr h => ?_)
  · obtain ⟨d, c, r, n, l, xs, rfl, _⟩ := h
    rfl
  · obtain ⟨d, c, r, n, l, xs, rfl, hD, hn, hl, ld, lr, h0, h1, q⟩ := h
    refine ⟨_, pss_one (ps_ret (pe_ix ix_list (pv 1) (pe_cl DN GN hr (pa_cons (pv 0) (pa_cons (pe_len B (pv 1)) pa_nil))) (fun _ _ => rfl))), ?_⟩
    refine ⟨.ref l, rfl, .ref d, rfl, .ref l, rfl, l, xs, rfl, .inl hl, d, c, r, n, _, rfl, hD, hn, by omega, by omega, fun H' k hk hD' kp => ?_⟩
    have hk' : k < xs.length := by omega
    exact ⟨l, xs, k, xs[k], rfl, rfl, kp.sqL ld lr hl, atI_nat (List.getElem?_eq_getElem hk'), q H' k _ (List.getElem?_eq_getElem hk') hD' kp⟩
/-! ### a count -/
def sp_count : Sp := fun vs H Q _ => ∃ (d c r : Addr) (n : Nat) (m : Int), vs = [.ref d, .int m] ∧ Dr H d c r n ∧ n ≤ 800000 ∧ 1 ≤ m ∧ m ≤ 1000 ∧
  ∀ (H' : Hp) (k : Nat), 1 ≤ k → (k : Int) ≤ m → Dr H' d c r (n + 3) → Kp d r H H' → Q (.int (k : Int)) H'
theorem ok_count {f fN : Addr} {fd fdN : FuncData} (F : Fun K "_law_count" "_law_count" s_L_count f fd) (DN : Df K mg "_law_next" s_L_next fN fdN ["_law_drawn", "_law_many"]) (B : Bi mg) : FnOk P w K mg base CX0 2 f fd ["_law_drawn", "_law_most"] sp_count := by
  have GN : FnOk P w K mg base CX0 1 fN fdN ["_law_drawn", "_law_many"] sp_next := ok_next DN.F B
  refine F.ok sc_L_count (fun vs H Q E h => ?_) (fun cdv A outer s H vs Q E hr h => ?_)
  · obtain ⟨d, c, r, n, m, rfl, _⟩ := h
    rfl
  · obtain ⟨d, c, r, n, m, rfl, hD, hn, h1, h2, q⟩ := h
    refine ⟨_, pss_one (ps_ret (pe_ix ix_list (pe_lst (pa_cons (pv 1) (pa_cons (pe_op op_add pe_int (pe_cl DN GN hr (pa_cons (pv 0) (pa_cons (pv 1) pa_nil))))
      (pa_cons (pe_op op_add pe_int (pe_cl DN GN hr (pa_cons (pv 0) (pa_cons (pe_callB (call_min2 rfl) (by rfl) B.min (by decide +kernel) (pa_cons (pv 1) (pa_cons pe_int pa_nil))) pa_nil)))) pa_nil))))
      (pe_cl DN GN hr (pa_cons (pv 0) (pa_cons pe_int pa_nil))) (fun _ _ => rfl))), ?_⟩
    refine ⟨.int m, rfl, .ref d, rfl, .int m, rfl, d, c, r, n, m, rfl, hD, by omega, by omega, by omega, fun H1 k1 l1 D1 kp1 => ?_⟩
    refine ⟨_, _, rfl, rfl, .ref d, rfl, .int m, rfl, _, _, rfl, d, c, r, n + 1, _, rfl, D1, by omega, ?_, ?_, fun H2 k2 l2 D2 kp2 => ?_⟩
    · split <;> omega
    · split <;> omega
    refine ⟨_, _, rfl, rfl, (by show 3 ≤ sizeLine; decide), fun p hp => ?_⟩
    have kp12 := kp1.trans kp2
    refine ⟨.ref d, rfl, d, c, r, n + 2, 3, rfl, D2.new hp, by omega, by decide, by decide, fun H3 k3 l3 D3 kp3 => ?_⟩
    have np := D2.ne hp
    have hp3 : H3 p = _ := kp3 p _ upd_same np.1 np.2.2
    have kp : Kp d r H H3 := kp12.trans ((Kp.new hp).trans kp3)
    have lm : (if (4 : Int) < m then (4 : Int) else m) ≤ m := by split <;> omega
    match k3, l3 with
    | 0, _ => exact ⟨p, _, 0, .int m, rfl, rfl, SqL.of hp3, rfl, by rw [show m = (m.toNat : Int) from (Int.toNat_of_nonneg (by omega)).symm]; exact q H3 m.toNat (by omega) (by omega) D3 kp⟩
    | 1, _ => exact ⟨p, _, 1, .int (1 + (k1 : Int)), rfl, rfl, SqL.of hp3, rfl, by rw [show 1 + (k1 : Int) = ((1 + k1 : Nat) : Int) by omega]; exact q H3 (1 + k1) (by omega) (by omega) D3 kp⟩
    | 2, _ => exact ⟨p, _, 2, .int (1 + (k2 : Int)), rfl, rfl, SqL.of hp3, rfl, by rw [show 1 + (k2 : Int) = ((1 + k2 : Nat) : Int) by omega]; exact q H3 (1 + k2) (by omega) (by omega) D3 kp⟩
    | k + 3, l3 => omega
end
section
variable {P : Program} {w : World} {K : PySem.W.Frag} {mg : Str → Option Value} {base : Heap}
/-! ### levels to choose from -/
def GrOk (ns : List Int) : Prop := 0 < ns.length ∧ ns.length ≤ 8 ∧ ∀ x ∈ ns, LvOk x
def sp_grades : Sp := fun vs H Q _ => ∃ (d c r : Addr) (n : Nat), vs = [.ref d] ∧ Dr H d c r n ∧ n ≤ 800000 ∧
  ∀ (H' : Hp) (g : Addr) (ns : List Int), H g = none → H' g = some (.lst (ns.map V.int)) → GrOk ns → Dr H' d c r (n + 9) → Kp d r H H' → g ≠ d → g ≠ c → g ≠ r → Q (.ref g) H'
theorem ok_grades {f fN : Addr} {fd fdN : FuncData} (F : Fun K "_law_grades" "_law_grades" s_L_grades f fd) (DN : Df K mg "_law_next" s_L_next fN fdN ["_law_drawn", "_law_many"]) (B : Bi mg) : FnOk P w K mg base CX0 2 f fd ["_law_drawn"] sp_grades := by
  have GN : FnOk P w K mg base CX0 1 fN fdN ["_law_drawn", "_law_many"] sp_next := ok_next DN.F B
  refine F.ok sc_L_grades (fun vs H Q E h => ?_) (fun cdv A outer s H vs Q E hr h => ?_)
  · obtain ⟨d, c, r, n, rfl, _⟩ := h
    rfl
  · obtain ⟨d, c, r, n, rfl, hD, hn, q⟩ := h
    have nd := sc_L_grades.nd
    refine ⟨_, pss_cons (ps_par (i := 1) (j := 2) rfl nd rfl rfl (by decide) rfl rfl (pa_cons (pe_cl DN GN hr (pa_cons (pv 0) (pa_cons pe_int pa_nil))) (pa_cons (pe_op op_add pe_int (pe_cl DN GN hr (pa_cons (pv 0) (pa_cons pe_int pa_nil)))) pa_nil)) rfl)
      (pss_cons (ps_set (i := 3) nd rfl (.inr rfl) (pe_ix ix_list (pe_lst (pa_cons pe_int (pa_cons pe_int (pa_cons pe_int (pa_cons pe_int (pa_cons (pe_op op_pow pe_int pe_int) pa_nil)))))) (pv 1) (fun _ _ => rfl)))
      (pss_cons (ps_setLc (i := 4) (own := [("_law_k", 5)]) (g := gName 5) (tt := tYes) rfl nd rfl rfl (sw_true rfl rfl rfl (by decide +kernel)) (pi_range1 rfl B.range (pa_cons (pv 2) pa_nil)) (blkOk_by (N := N_L_grades) (sc := defScope s_L_grades) (by decide +kernel))
        (fun _ _ _ _ _ => pg_name (i := 5) nd rfl (.inl rfl)) (fun _ _ _ _ _ => pts_nil)
        (fun _ _ _ _ _ => pe_op op_add pe_int (pe_cl DN GN hr (pa_cons (pv 0) (pa_cons (pv 3) pa_nil)))))
      (pss_one (ps_ret (pe_callB (cr_sortedSet rfl) (by rfl) B.sorted (by decide +kernel) (pa_cons (pe_callTy (cr_setL1 rfl) (by rfl) B.set (by decide +kernel)
        (pa_cons (pe_op op_cat (pv 4) (pe_op op_rep (pe_lst (pa_cons (pe_op op_pow pe_int pe_int) pa_nil)) (pe_callTy call_int1 (by rfl) B.int (by decide +kernel) (pa_cons (pe_cmpR op_eq (pe_cl DN GN hr (pa_cons (pv 0) (pa_cons pe_int pa_nil))) pe_int (nomark _)) pa_nil)))) pa_nil)) pa_nil)))))), ?_⟩
    refine ⟨.ref d, rfl, d, c, r, n, 5, rfl, hD, by omega, by decide, by decide, fun H1 k1 l1 D1 kp1 => ?_⟩
    refine ⟨.ref d, rfl, d, c, r, n + 1, 6, rfl, D1, by omega, by decide, by decide, fun H2 k2 l2 D2 kp2 => ?_⟩
    refine ⟨_, _, rfl, rfl, _, _, rfl, ?_⟩
    have kp12 := kp1.trans kp2
    -- wide
    refine ⟨_, _, rfl, rfl, ⟨by decide, by decide, by decide⟩, (by show 5 ≤ sizeLine; decide), fun p hp => ?_⟩
    have D3 : Dr (upd H2 p (.lst [.int 2, .int 4, .int 12, .int 100, .int (10 ^ (12 : Int).toNat)])) d c r (n + 2) := D2.new hp
    obtain ⟨wd, hwd, w0, w1⟩ : ∃ wd : Int, atI [V.int 2, .int 4, .int 12, .int 100, .int (10 ^ (12 : Int).toNat)] (k1 : Int) = some (.int wd) ∧ 0 < wd ∧ wd ≤ 1000000000000 := by
      match k1, l1 with
      | 0, _ => exact ⟨2, rfl, by decide, by decide⟩
      | 1, _ => exact ⟨4, rfl, by decide, by decide⟩
      | 2, _ => exact ⟨12, rfl, by decide, by decide⟩
      | 3, _ => exact ⟨100, rfl, by decide, by decide⟩
      | 4, _ => exact ⟨10 ^ (12 : Int).toNat, rfl, by decide, by decide⟩
      | k + 5, l => omega
    refine ⟨.int (k1 : Int), rfl, p, _, _, _, rfl, rfl, SqL.of upd_same, hwd, ?_⟩
    have kp3 : Kp d r H (upd H2 p (.lst [.int 2, .int 4, .int 12, .int 100, .int (10 ^ (12 : Int).toNat)])) := kp12.trans (Kp.new hp)
    generalize upd H2 p (.lst [.int 2, .int 4, .int 12, .int 100, .int (10 ^ (12 : Int).toNat)]) = H3 at D3 kp3
    -- the found ones
    refine ⟨.int (1 + (k2 : Int)), rfl, _, rfl, by omega, by omega, fun D hDn => lc_range (n := (1 + (k2 : Int)).toNat) (fun i Hx => ∃ ns : List Int, Hx D = some (.lst (ns.map V.int)) ∧ ns.length = i ∧ (∀ x ∈ ns, LvOk x) ∧ Dr Hx d c r (n + 2 + i) ∧ Kp d r H3 Hx) ⟨[], upd_same, rfl, fun x hx => by simp at hx, D3.new hDn, Kp.new hDn⟩ (fun i Hx hi hP => ?_) (fun Hx hP => ?_)⟩
    · obtain ⟨ns, h1, h2, h3, h4, h5⟩ := hP
      refine ⟨rfl, .ref d, rfl, .int wd, rfl, d, c, r, n + 2 + i, wd, rfl, h4, by omega, w0, by omega, fun H4 k4 l4 D4 kp4 => ?_⟩
      have nD := D3.ne hDn
      have hD4 : H4 D = some (.lst (ns.map V.int)) := kp4 D _ h1 nD.1 nD.2.2
      refine ⟨_, _, rfl, rfl, ns.map V.int, hD4, by rw [List.length_map]; exact small1000 (by omega), ns ++ [1 + (k4 : Int)], ?_, by rw [List.length_append, h2]; rfl, ?_, D4.upd nD.1 nD.2.1 nD.2.2, ?_⟩
      · rw [upd_same, List.map_append]; rfl
      · intro x hx
        rcases List.mem_append.mp hx with hx | hx
        · exact h3 x hx
        · rw [List.mem_singleton.mp hx]; exact ⟨by omega, by omega⟩
      · intro b o e n1 n2
        by_cases hb : b = D
        · rw [hb, hDn] at e; cases e
        · rw [upd_ne hb]; exact kp4 b o (h5 b o e n1 n2) n1 n2
    · obtain ⟨ns, h1, h2, h3, h4, h5⟩ := hP
      have nD := D3.ne hDn
      have e2 : (1 + (k2 : Int)).toNat = 1 + k2 := by omega
      rw [e2] at h2 h4
      -- sorted(set(found + [10 ** 12] * int(next == 0)))
      refine ⟨.ref D, rfl, _, _, rfl, rfl, ⟨by decide, by decide, by decide⟩, (by show 1 ≤ sizeLine; decide), fun p5 hp5 => ?_⟩
      refine ⟨.ref d, rfl, d, c, r, n + 2 + (1 + k2), 8, rfl, h4.new hp5, by omega, by decide, by decide, fun H6 k6 l6 D6 kp6 => ?_⟩
      have np5 := h4.ne hp5
      have hp6 : H6 p5 = some (.lst [.int (10 ^ (12 : Int).toNat)]) := kp6 p5 _ upd_same np5.1 np5.2.2
      have hD6 : H6 D = some (.lst (ns.map V.int)) := kp6 D _ (by rw [upd_ne (ne_of_none h1 hp5)]; exact h1) nD.1 nD.2.2
      obtain ⟨kk, ek, ekk⟩ : ∃ kk : Int, (if decide (V.int (k6 : Int) = V.int 0) = true then (1 : Int) else 0) = kk ∧ (kk = 0 ∨ kk = 1) := ⟨_, rfl, by split <;> simp⟩
      refine ⟨rfl, .inr ⟨_, rfl, ?_⟩⟩
      rw [ek]
      refine ⟨p5, kk, _, rfl, rfl, hp6, by omega, by omega, ?_, fun p7 hp7 => ?_⟩
      · show 1 * kk.toNat ≤ sizeLine
        rcases ekk with e | e <;> rw [e] <;> decide
      obtain ⟨ms, em, lm, hm⟩ : ∃ ms : List Int, (List.replicate kk.toNat [V.int (10 ^ (12 : Int).toNat)]).flatten = ms.map V.int ∧ ms.length ≤ 1 ∧ ∀ x ∈ ms, LvOk x := by
        rcases ekk with e | e
        · exact ⟨[], by rw [e]; rfl, by decide, fun x hx => by simp at hx⟩
        · exact ⟨[10 ^ (12 : Int).toNat], by rw [e]; rfl, by decide, fun x hx => by rw [List.mem_singleton.mp hx]; exact ⟨by decide, by decide⟩⟩
      rw [em]
      have hD7 : (upd H6 p7 (.lst (ms.map V.int))) D = some (.lst (ns.map V.int)) := by rw [upd_ne (ne_of_none hD6 hp7)]; exact hD6
      refine ⟨D, p7, _, _, rfl, rfl, hD7, upd_same, ?_, fun p8 hp8 => ?_⟩
      · rw [List.length_map, List.length_map]; exact Nat.le_of_lt (small1000 (by omega))
      rw [← List.map_append]
      refine ⟨p8, ns ++ ms, rfl, SqL.of upd_same, by rw [List.length_append]; omega, fun p9 cn hp9 hcn => ?_⟩
      refine ⟨p9, _, cn, rfl, upd_same, by rw [List.length_append] at hcn; omega, fun out g hsort hmem hlen hg => ?_⟩
      have D7 := D6.new (o := .lst (ms.map V.int)) hp7
      have D8 := D7.new (o := .lst ((ns ++ ms).map V.int)) hp8
      have D9 := D8.new (o := SetO w p9 (fun j => decide (j ∈ ns ++ ms)) cn) hp9
      have D10 := D9.new (o := .lst (out.map V.int)) hg
      have ng := D9.ne hg
      have kpE : Kp d r H _ := kp3.trans (h5.trans ((Kp.new (o := .lst [.int (10 ^ (12 : Int).toNat)]) hp5).trans (kp6.trans ((Kp.new (o := .lst (ms.map V.int)) hp7).trans ((Kp.new (o := .lst ((ns ++ ms).map V.int)) hp8).trans ((Kp.new (o := SetO w p9 (fun j => decide (j ∈ ns ++ ms)) cn) hp9).trans (Kp.new (o := .lst (out.map V.int)) hg)))))))
      have hgH : H g = none := by
        cases e : H g with
        | none => rfl
        | some o =>
          have z := (kp3.trans (h5.trans ((Kp.new (o := .lst [.int (10 ^ (12 : Int).toNat)]) hp5).trans (kp6.trans ((Kp.new (o := .lst (ms.map V.int)) hp7).trans ((Kp.new (o := .lst ((ns ++ ms).map V.int)) hp8).trans (Kp.new (o := SetO w p9 (fun j => decide (j ∈ ns ++ ms)) cn) hp9))))))) g o e ng.1 ng.2.2
          have hg' : upd (upd (upd H6 p7 (.lst (ms.map V.int))) p8 (.lst ((ns ++ ms).map V.int))) p9 (SetO w p9 (fun j => decide (j ∈ ns ++ ms)) cn) g = none := hg
          rw [hg'] at z
          cases z
      have mem : ∀ x, x ∈ out ↔ x ∈ ns ++ ms := fun x => by rw [hmem x]; exact decide_eq_true_iff
      refine q _ g out hgH upd_same ⟨?_, ?_, fun x hx => ?_⟩ (D10.mono (by omega)) kpE ng.1 ng.2.1 ng.2.2
      · have h0 : 0 < ns.length := by omega
        have : ns[0] ∈ out := (mem _).mpr (List.mem_append_left _ (List.getElem_mem h0))
        exact List.length_pos_of_mem this
      · rw [List.length_append] at hcn
        omega
      · rcases List.mem_append.mp ((mem x).mp hx) with hx | hx
        · exact h3 x hx
        · exact hm x hx
end
section
variable {P : Program} {w : World} {K : PySem.W.Frag} {mg : Str → Option Value} {base : Heap}
/-! ### the level between two -/
theorem min_nat (i j : Nat) : (if (j : Int) < (i : Int) then (j : Int) else (i : Int)) = ((min i j : Nat) : Int) := by
  split <;> omega
theorem max_nat (i j : Nat) : (if (j : Int) > (i : Int) then (j : Int) else (i : Int)) = ((max i j : Nat) : Int) := by
  split <;> omega
def sp_level (K : PySem.W.Frag) : Sp := fun vs H Q _ => ∃ (a : Addr) (xs : List V) (t : List (List Int)) (i j : Nat), vs = [.ref a, .int (i : Int), .int (j : Int)] ∧ (SqL K H a xs ∨ SqT K H a xs) ∧ Rows K H xs t ∧ WT t ∧ i < t.length ∧ j < t.length ∧ Q (.int (lev t i j)) H
theorem ok_level {f : Addr} {fd : FuncData} {k : Nat} (F : Fun K "_law_level" "_law_level" s_L_level f fd) (B : Bi mg) : FnOk P w K mg base CX0 (k + 1) f fd ["_law_table_here", "_law_one_here", "_law_other"] (sp_level K) := by
  refine F.ok sc_L_level (fun vs H Q E h => ?_) (fun cdv A outer s H vs Q E hr h => ?_)
  · obtain ⟨a, xs, t, i, j, rfl, _⟩ := h
    rfl
  · obtain ⟨a, xs, t, i, j, rfl, hS, hR, hW, hi, hj, q⟩ := h
    have nd := sc_L_level.nd
    refine ⟨_, pss_cons (ps_par (i := 3) (j := 4) rfl nd rfl rfl (by decide) rfl rfl (pa_cons (pe_callB (call_min2 rfl) (by rfl) B.min (by decide +kernel) (pa_cons (pv 1) (pa_cons (pv 2) pa_nil))) (pa_cons (pe_callB (call_max2 rfl) (by rfl) B.max (by decide +kernel) (pa_cons (pv 1) (pa_cons (pv 2) pa_nil))) pa_nil)) rfl)
      (pss_one (ps_ret (pe_ifExp (pt_cmpR op_eq (pv 3) (pv 4) (nomark _)) pe_int (pe_ix ix_tup (pe_ix (IxR.or ix_list ix_tup) (pv 0) (pv 4) (fun _ _ => rfl)) (pv 3) (fun _ _ => rfl))))), ?_⟩
    refine ⟨.int (i : Int), rfl, .int (j : Int), rfl, _, _, rfl, .int (i : Int), rfl, .int (j : Int), rfl, _, _, rfl, _, _, rfl, ?_⟩
    rw [min_nat, max_nat]
    refine ⟨.int ((min i j : Nat) : Int), rfl, .int ((max i j : Nat) : Int), rfl, rfl, _, rfl, ite2 (fun e => ?_) (fun e => ?_)⟩
    · have e1 : ((min i j : Nat) : Int) = ((max i j : Nat) : Int) := V.int.inj (of_decide_eq_true e)
      have e2 : i = j := by omega
      have e3 : lev t i j = 0 := by unfold lev; rw [if_pos e2]
      rw [e3] at q
      exact q
    · have e2 : i ≠ j := fun z => e (decide_eq_true (by rw [z]; simp))
      have hm : max i j < t.length := by omega
      obtain ⟨v, p, hv, rfl, hp⟩ := hR.get hm
      obtain ⟨l1, l2⟩ := hW.row hm
      have hl : min i j < (t.getD (max i j) []).length := by omega
      have e3 : lev t i j = (t.getD (max i j) []).getD (min i j) 0 := by unfold lev; rw [if_neg e2]
      rw [e3] at q
      refine ⟨.ref a, rfl, .int ((max i j : Nat) : Int), rfl, ?_⟩
      rcases hS with hS | hS
      · exact .inl ⟨a, xs, _, _, rfl, rfl, hS, atI_nat hv, .int ((min i j : Nat) : Int), rfl, p, _, _, _, rfl, rfl, hp, atI_nat (map_at (getD_at hl)), q⟩
      · exact .inr ⟨a, xs, _, _, rfl, rfl, hS, atI_nat hv, .int ((min i j : Nat) : Int), rfl, p, _, _, _, rfl, rfl, hp, atI_nat (map_at (getD_at hl)), q⟩
/-! ### nested tables -/
def sp_nestedU (K : PySem.W.Frag) : Sp := fun vs H Q _ => ∃ (d c r : Addr) (n cnt : Nat) (g : Addr) (gs : List Int), vs = [.ref d, .int (cnt : Int), .ref g] ∧ Dr H d c r n ∧ n ≤ 800000 ∧ 1 ≤ cnt ∧ cnt ≤ 20 ∧ SqL K H g (gs.map V.int) ∧ g ≠ d ∧ g ≠ r ∧ GrOk gs ∧
  ∀ (H' : Hp) (v : V) (t : List (List Int)), TT K H' v t → WT t → Ultra t → t.length = cnt → Dr H' d c r (n + 2 * cnt) → Kp d r H H' → Q v H'
theorem ok_nestedU {f fN fO fL : Addr} {fd fdN fdO fdL : FuncData} (F : Fun K "_law_nested" "_law_nested" s_L_nested f fd) (DN : Df K mg "_law_next" s_L_next fN fdN ["_law_drawn", "_law_many"]) (DO : Df K mg "_law_one" s_L_one fO fdO ["_law_drawn", "_law_items"])
    (DL : Df K mg "_law_level" s_L_level fL fdL ["_law_table_here", "_law_one_here", "_law_other"]) (B : Bi mg) : FnOk P w K mg base CX0 3 f fd ["_law_drawn", "_law_count_here", "_law_grades_here"] (sp_nestedU K) := by
  have GN : FnOk P w K mg base CX0 1 fN fdN ["_law_drawn", "_law_many"] sp_next := ok_next DN.F B
  have GO : FnOk P w K mg base CX0 2 fO fdO ["_law_drawn", "_law_items"] (sp_one K) := ok_one DO.F DN B
  have GL : FnOk P w K mg base CX0 1 fL fdL ["_law_table_here", "_law_one_here", "_law_other"] (sp_level K) := ok_level DL.F B
  refine F.ok sc_L_nested (fun vs H Q E h => ?_) (fun cdv A outer s H vs Q E hr h => ?_)
  · obtain ⟨d, c, r, n, cnt, g, gs, rfl, _⟩ := h
    rfl
  · obtain ⟨d, c, r, n, cnt, g, gs, rfl, hD, hn, hc1, hc2, hg, gd, gr, hG, q⟩ := h
    have nd := sc_L_nested.nd
    have hr1 := hr.mono (show 1 ≤ 2 by decide)
    refine ⟨_, pss_cons (ps_set (i := 3) nd rfl (.inr rfl) (pe_lst (pa_cons (pe_tup pa_nil) pa_nil)))
      (pss_cons (ps_while PassesOwn.never (pt_cmpR op_lt (pe_len B (pv 3)) (pv 1) (nomark _))
        (pss_cons (ps_asg (pe_tup (pa_cons (pe_cl DN GN hr1 (pa_cons (pv 0) (pa_cons (pe_len B (pv 3)) pa_nil))) (pa_cons (pe_cl DO GO hr (pa_cons (pv 0) (pa_cons (pv 2) pa_nil))) pa_nil)))
            (pg_tup rfl (pgs_cons (pg_name (i := 4) nd rfl (.inr rfl)) (pgs_cons (pg_name (i := 5) nd rfl (.inr rfl)) pgs_nil))))
        (pss_cons (ps_setLc (i := 6) (own := [("_law_k", 7)]) (g := gName 7) (tt := tYes) rfl nd rfl rfl (sw_true rfl rfl rfl (by decide +kernel)) (pi_range1 rfl B.range (pa_cons (pe_len B (pv 3)) pa_nil)) (blkOk_by (N := N_L_nested) (sc := defScope s_L_nested) (by decide +kernel))
          (fun _ _ _ _ _ => pg_name (i := 7) nd rfl (.inl rfl)) (fun _ _ _ _ _ => pts_nil)
          (fun _ _ _ _ _ => pe_callB (call_max2 rfl) (by rfl) B.max (by decide +kernel) (pa_cons (pv 5) (pa_cons (pe_cl DL GL hr1 (pa_cons (pv 3) (pa_cons (pv 4) (pa_cons (pv 7) pa_nil)))) pa_nil))))
        (pss_one (ps_expr (pe_bm PySem.F.plainAttrs_list PySem.F.slot_list_append PySem.F.type_list_append mt_append (pv 3) (pa_cons (pe_callTy call_tuple_of (by rfl) B.tuple (by decide +kernel) (pa_cons (pv 6) pa_nil)) pa_nil)))))))
      (pss_one (ps_ret (pe_callTy call_tuple_of (by rfl) B.tuple (by decide +kernel) (pa_cons (pv 3) pa_nil))))), ?_⟩
    -- rows = [()]
    refine ⟨Nat.zero_le _, fun p0 hp0 => ⟨(by show 1 ≤ sizeLine; decide), fun rw hrw => ?_⟩⟩
    have D0 := (hD.new (o := .tup []) hp0).new (o := .lst [.ref p0]) hrw
    have k0 : Kp d r H (upd (upd H p0 (.tup [])) rw (.lst [.ref p0])) := (Kp.new hp0).trans (Kp.new hrw)
    have nrw := (hD.new (o := .tup []) hp0).ne hrw
    have hrwH : H rw = none := Sm.free (Sm.new (o := .tup []) hp0) hrw
    refine ⟨fun m σ Hx => ∃ x4 x5 x6 xs t, σ = [some (.ref d), some (.int (cnt : Int)), some (.ref g), some (.ref rw), x4, x5, x6, none] ∧ Hx rw = some (.lst xs) ∧ Rows K Hx xs t ∧ (WT t ∧ Ultra t) ∧ 0 < t.length ∧ t.length ≤ cnt ∧ m = cnt - t.length ∧ Dr Hx d c r (n + 2 * t.length) ∧ Kp d r H Hx,
      ⟨cnt - 1, none, none, none, [.ref p0], [[]], rfl, upd_same, ?_, ?_, by decide, by show 1 ≤ cnt; exact hc1, rfl, D0.mono (by omega), k0⟩, fun m σ Hx hW => ?_⟩
    · refine (Rows.nil.snoc (v := .ref p0) (ns := []) ⟨p0, rfl, SqT.of ?_⟩)
      rw [upd_ne (ne_of_none upd_same hrw)]
      exact upd_same
    · refine ⟨WT.nil.snoc rfl (fun x hx => by simp at hx), fun i j k hi hj hk => ?_⟩
      obtain rfl : i = 0 := by simp at hi; omega
      obtain rfl : j = 0 := by simp at hj; omega
      obtain rfl : k = 0 := by simp at hk; omega
      rw [lev_self]
      decide
    obtain ⟨x4, x5, x6, xs, t, rfl, hx, hR, ⟨hT, hU⟩, ht0, htc, rfl, hDx, hk⟩ := hW
    have hxl : xs.length = t.length := hR.1
    have nD := hDx
    refine ⟨.ref rw, rfl, rw, xs, rfl, .inl (SqL.of hx), .int (cnt : Int), rfl, _, _, rfl, rfl, _, rfl, ite2 (fun e => ?_) (fun e => ?_)⟩
    · have e1 : (xs.length : Int) < (cnt : Int) := of_decide_eq_true e
      have e2 : t.length < cnt := by omega
      refine ⟨fun σ' H' => ∃ x4 x5 x6 xs t', σ' = [some (.ref d), some (.int (cnt : Int)), some (.ref g), some (.ref rw), x4, x5, x6, none] ∧ H' rw = some (.lst xs) ∧ Rows K H' xs t' ∧ (WT t' ∧ Ultra t') ∧ t'.length = t.length + 1 ∧ Dr H' d c r (n + 2 * (t.length + 1)) ∧ Kp d r H H', fun σ' H' hN => ?_, ?_⟩
      · obtain ⟨y4, y5, y6, ys, t', h1, h2, h3, h4, h5, h6, h7⟩ := hN
        exact ⟨cnt - t'.length, by omega, y4, y5, y6, ys, t', h1, h2, h3, h4, by omega, by omega, rfl, by rw [h5]; exact h6, h7⟩
      -- near, level
      refine ⟨.ref d, rfl, .ref rw, rfl, rw, xs, rfl, .inl (SqL.of hx), d, c, r, _, _, rfl, hDx, by omega, by omega, by omega, fun H1 k1 l1 D1 kp1 => ?_⟩
      refine ⟨.ref d, rfl, .ref g, rfl, d, c, r, _, g, gs.map V.int, rfl, D1, by omega, (hk.trans kp1).sqL gd gr hg, gd, gr, by rw [List.length_map]; exact hG.1, by rw [List.length_map]; have := hG.2.1; omega, fun H2 i2 v2 hv2 D2 kp2 => ?_⟩
      obtain ⟨lv, hlv, rfl⟩ : ∃ lv : Int, LvOk lv ∧ v2 = .int lv := by
        rw [List.getElem?_map] at hv2
        cases e3 : gs[i2]? with
        | none => rw [e3] at hv2; cases hv2
        | some z =>
          rw [e3] at hv2
          exact ⟨z, hG.2.2 z (List.mem_of_getElem? e3), (Option.some.inj hv2).symm⟩
      refine ⟨(by show 2 ≤ sizeLine; decide), fun p3 hp3 => ?_⟩
      refine ⟨p3, _, rfl, SqT.of upd_same, rfl, _, _, rfl, _, _, rfl, rfl, ?_⟩
      have kp12 := kp1.trans kp2
      have hx2 : H2 rw = some (.lst xs) := kp12 rw _ hx nrw.1 nrw.2.2
      have R2 : Rows K H2 xs t := hR.kp hDx kp12
      have D3 := D2.new (o := .tup [.int (k1 : Int), .int lv]) hp3
      have R3 : Rows K (upd H2 p3 (.tup [.int (k1 : Int), .int lv])) xs t := R2.same (Sm.new hp3)
      have hx3 : (upd H2 p3 (.tup [.int (k1 : Int), .int lv])) rw = some (.lst xs) := Sm.new hp3 _ _ hx2
      have k3 : Kp d r H (upd H2 p3 (.tup [.int (k1 : Int), .int lv])) := hk.trans (kp12.trans (Kp.new hp3))
      generalize upd H2 p3 (.tup [.int (k1 : Int), .int lv]) = H3 at D3 R3 hx3 k3
      -- row
      refine ⟨.ref rw, rfl, rw, xs, rfl, .inl (SqL.of hx3), _, rfl, by omega, by omega, fun D hDn => lc_range (n := (xs.length : Int).toNat) (fun i Hy => Hy D = some (.lst (((List.range i).map fun k => max lv (lev t k1 k)).map V.int)) ∧ Sm H3 Hy) ⟨upd_same, Sm.new hDn⟩ (fun i Hy hi hP => ?_) (fun Hy hP => ?_)⟩
      · obtain ⟨h1, h4⟩ := hP
        have hi' : i < t.length := by omega
        refine ⟨rfl, .int lv, rfl, .ref rw, rfl, .int (k1 : Int), rfl, .int (0 + (i : Int)), rfl, rw, xs, t, k1, i, by rw [Int.zero_add]; rfl, .inl (SqL.of (h4 _ _ hx3)), R3.same h4, hT, by omega, hi', ?_⟩
        refine ⟨_, _, rfl, _, h1, by simp; exact small1000 (by omega), ?_, ?_⟩
        · rw [upd_same, range_map_succ, List.map_append, show (if lev t k1 i > lv then lev t k1 i else lv) = max lv (lev t k1 i) by split <;> omega]
          rfl
        · intro b o e
          have hb : b ≠ D := ne_of_none e hDn
          rw [upd_ne hb]
          exact h4 b o e
      · obtain ⟨h1, h4⟩ := hP
        have ex : (xs.length : Int).toNat = t.length := by omega
        rw [ex] at h1
        obtain ⟨ns, ens⟩ : ∃ ns, ns = growR t k1 lv := ⟨_, rfl⟩
        have h1 : Hy D = some (.lst (ns.map V.int)) := by rw [ens]; exact h1
        have hk1 : k1 < t.length := by omega
        have h2' : ns.length = t.length := by rw [ens, growR_len]
        have h3 : ∀ x ∈ ns, LvOk x := by rw [ens]; exact growR_ok hT hk1 hlv
        have hU2 : Ultra (t ++ [ns]) := by rw [ens]; exact grow_ultra hT hU hk1 hlv
        have hx4 := h4 _ _ hx3
        -- rows.append(tuple(row))
        refine ⟨.ref rw, rfl, .inl ⟨rfl, _, SqL.of hx4⟩, .ref D, rfl, D, _, rfl, .inl ⟨SqL.of h1, fun p5 hp5 => ?_⟩⟩
        have hx5 : (upd Hy p5 (.tup (ns.map V.int))) rw = some (.lst xs) := Sm.new hp5 _ _ hx4
        refine ⟨rw, _, _, rfl, rfl, hx5, small1000 (by omega), ?_⟩
        have R5 : Rows K (upd Hy p5 (.tup (ns.map V.int))) (xs ++ [.ref p5]) (t ++ [ns]) := ((R3.same h4).same (Sm.new hp5)).snoc ⟨p5, rfl, SqT.of upd_same⟩
        refine ⟨_, _, _, _, _, rfl, upd_same, R5.upd hx5, ⟨hT.snoc h2' h3, hU2⟩, by rw [List.length_append]; rfl, ?_, ?_⟩
        · exact (((D3.same h4).new hp5).upd nrw.1 nrw.2.1 nrw.2.2).mono (by omega)
        · intro b o e n1 n2
          have hb : b ≠ rw := ne_of_none e hrwH
          rw [upd_ne hb]
          exact Sm.new hp5 _ _ (h4 _ _ (k3 b o e n1 n2))
    · have e1 : ¬ (xs.length : Int) < (cnt : Int) := fun z => e (decide_eq_true z)
      have e2 : t.length = cnt := by omega
      refine ⟨.ref rw, rfl, rw, xs, rfl, .inl ⟨SqL.of hx, fun p hp => ?_⟩⟩
      exact q _ _ t ⟨p, xs, rfl, SqT.of upd_same, hR.same (Sm.new hp)⟩ hT hU e2 ((hDx.new hp).mono (by omega)) (hk.trans (Kp.new hp))
def sp_nested (K : PySem.W.Frag) : Sp := fun vs H Q _ => ∃ (d c r : Addr) (n cnt : Nat) (g : Addr) (gs : List Int), vs = [.ref d, .int (cnt : Int), .ref g] ∧ Dr H d c r n ∧ n ≤ 800000 ∧ 1 ≤ cnt ∧ cnt ≤ 20 ∧ SqL K H g (gs.map V.int) ∧ g ≠ d ∧ g ≠ r ∧ GrOk gs ∧
  ∀ (H' : Hp) (v : V) (t : List (List Int)), TT K H' v t → WT t → t.length = cnt → Dr H' d c r (n + 2 * cnt) → Kp d r H H' → Q v H'
theorem ok_nested {f fN fO fL : Addr} {fd fdN fdO fdL : FuncData} (F : Fun K "_law_nested" "_law_nested" s_L_nested f fd) (DN : Df K mg "_law_next" s_L_next fN fdN ["_law_drawn", "_law_many"]) (DO : Df K mg "_law_one" s_L_one fO fdO ["_law_drawn", "_law_items"])
    (DL : Df K mg "_law_level" s_L_level fL fdL ["_law_table_here", "_law_one_here", "_law_other"]) (B : Bi mg) : FnOk P w K mg base CX0 3 f fd ["_law_drawn", "_law_count_here", "_law_grades_here"] (sp_nested K) := by
  refine (ok_nestedU F DN DO DL B).imp (fun vs H Q E h => ?_)
  obtain ⟨d, c, r, n, cnt, g, gs, rfl, hD, hn, hc1, hc2, hg, gd, gr, hG, q⟩ := h
  exact ⟨d, c, r, n, cnt, g, gs, rfl, hD, hn, hc1, hc2, hg, gd, gr, hG, fun H' v t hT hW _ hl D kp => q H' v t hT hW hl D kp⟩
end
section
variable {P : Program} {w : World} {K : PySem.W.Frag} {mg : Str → Option Value} {base : Heap}
/-! ### rows of levels -/
def sp_levels (K : PySem.W.Frag) : Sp := fun vs H Q _ => ∃ (d c r : Addr) (n m : Nat) (g : Addr) (gs : List Int), vs = [.ref d, .int (m : Int), .ref g] ∧ Dr H d c r n ∧ n ≤ 800000 ∧ m ≤ 20 ∧ SqL K H g (gs.map V.int) ∧ g ≠ d ∧ g ≠ r ∧ GrOk gs ∧
  ∀ (H' : Hp) (v : V) (ns : List Int), IT K H' v ns → ns.length = m → (∀ x ∈ ns, LvOk x) → Dr H' d c r (n + m) → Kp d r H H' → Q v H'
theorem gr_at {gs : List Int} {i : Nat} {v : V} (h : ∀ x ∈ gs, LvOk x) (e : (gs.map V.int)[i]? = some v) : ∃ lv : Int, LvOk lv ∧ v = .int lv := by
  rw [List.getElem?_map] at e
  cases e3 : gs[i]? with
  | none => rw [e3] at e; cases e
  | some z =>
    rw [e3] at e
    exact ⟨z, h z (List.mem_of_getElem? e3), (Option.some.inj e).symm⟩
theorem ok_levels {f fN fO : Addr} {fd fdN fdO : FuncData} (F : Fun K "_law_levels" "_law_levels" s_L_levels f fd) (DN : Df K mg "_law_next" s_L_next fN fdN ["_law_drawn", "_law_many"]) (DO : Df K mg "_law_one" s_L_one fO fdO ["_law_drawn", "_law_items"]) (B : Bi mg) :
    FnOk P w K mg base CX0 3 f fd ["_law_drawn", "_law_many", "_law_grades_here"] (sp_levels K) := by
  have GO : FnOk P w K mg base CX0 2 fO fdO ["_law_drawn", "_law_items"] (sp_one K) := ok_one DO.F DN B
  refine F.ok sc_L_levels (fun vs H Q E h => ?_) (fun cdv A outer s H vs Q E hr h => ?_)
  · obtain ⟨d, c, r, n, m, g, gs, rfl, _⟩ := h
    rfl
  · obtain ⟨d, c, r, n, m, g, gs, rfl, hD, hn, hm, hg, gd, gr, hG, q⟩ := h
    have nd := sc_L_levels.nd
    refine ⟨_, pss_one (ps_ret (pe_callTy call_tuple_of (by rfl) B.tuple (by decide +kernel) (pa_cons (pe_lc (own := [("_law_k", 3)]) (g := gName 3) (tt := tYes) rfl nd (pi_range1 rfl B.range (pa_cons (pv 1) pa_nil)) (blkOk_by (N := N_L_levels) (sc := defScope s_L_levels) (by decide +kernel))
      (fun _ _ _ _ _ => pg_name (i := 3) nd rfl (.inl rfl)) (fun _ _ _ _ _ => pts_nil) (fun _ _ _ _ _ => pe_cl DO GO hr (pa_cons (pv 0) (pa_cons (pv 2) pa_nil)))) pa_nil))), ?_⟩
    refine ⟨.int (m : Int), rfl, _, rfl, by omega, by omega, fun D hDn => lc_range (n := (m : Int).toNat) (fun i Hx => ∃ ns : List Int, Hx D = some (.lst (ns.map V.int)) ∧ ns.length = i ∧ (∀ x ∈ ns, LvOk x) ∧ Dr Hx d c r (n + i) ∧ Kp d r H Hx) ⟨[], upd_same, rfl, fun x hx => by simp at hx, hD.new hDn, Kp.new hDn⟩ (fun i Hx hi hP => ?_) (fun Hx hP => ?_)⟩
    · obtain ⟨ns, h1, h2, h3, h4, h5⟩ := hP
      have nD := hD.ne hDn
      refine ⟨rfl, .ref d, rfl, .ref g, rfl, d, c, r, n + i, g, gs.map V.int, rfl, h4, by omega, h5.sqL gd gr hg, gd, gr, by rw [List.length_map]; exact hG.1, by rw [List.length_map]; have := hG.2.1; omega, fun H2 i2 v2 hv2 D2 kp2 => ?_⟩
      obtain ⟨lv, hlv, rfl⟩ := gr_at hG.2.2 hv2
      have hD2 : H2 D = some (.lst (ns.map V.int)) := kp2 D _ h1 nD.1 nD.2.2
      refine ⟨ns.map V.int, hD2, by rw [List.length_map]; exact small1000 (by omega), ns ++ [lv], ?_, by rw [List.length_append, h2]; rfl, ?_, D2.upd nD.1 nD.2.1 nD.2.2, ?_⟩
      · rw [upd_same, List.map_append]; rfl
      · intro x hx
        rcases List.mem_append.mp hx with hx | hx
        · exact h3 x hx
        · rw [List.mem_singleton.mp hx]; exact hlv
      · intro b o e n1 n2
        rw [upd_ne (ne_of_none e hDn)]
        exact kp2 b o (h5 b o e n1 n2) n1 n2
    · obtain ⟨ns, h1, h2, h3, h4, h5⟩ := hP
      have e2 : (m : Int).toNat = m := by omega
      rw [e2] at h2 h4
      refine ⟨D, _, rfl, .inl ⟨SqL.of h1, fun p hp => ?_⟩⟩
      exact q _ _ ns ⟨p, rfl, SqT.of upd_same⟩ h2 h3 (h4.new hp) (h5.trans (Kp.new hp))
def sp_any (K : PySem.W.Frag) : Sp := fun vs H Q _ => ∃ (d c r : Addr) (n m : Nat) (wd : Int), vs = [.ref d, .int (m : Int), .int wd] ∧ Dr H d c r n ∧ n ≤ 800000 ∧ m ≤ 20 ∧ 0 < wd ∧ wd ≤ 1000000000000 ∧
  ∀ (H' : Hp) (v : V) (ns : List Int), IT K H' v ns → ns.length = m → (∀ x ∈ ns, LvOk x) → Dr H' d c r (n + m) → Kp d r H H' → Q v H'
theorem ok_any {f fN : Addr} {fd fdN : FuncData} (F : Fun K "_law_any" "_law_any" s_L_any f fd) (DN : Df K mg "_law_next" s_L_next fN fdN ["_law_drawn", "_law_many"]) (B : Bi mg) :
    FnOk P w K mg base CX0 3 f fd ["_law_drawn", "_law_many", "_law_wide"] (sp_any K) := by
  have GN : FnOk P w K mg base CX0 2 fN fdN ["_law_drawn", "_law_many"] sp_next := ok_next DN.F B
  refine F.ok sc_L_any (fun vs H Q E h => ?_) (fun cdv A outer s H vs Q E hr h => ?_)
  · obtain ⟨d, c, r, n, m, wd, rfl, _⟩ := h
    rfl
  · obtain ⟨d, c, r, n, m, wd, rfl, hD, hn, hm, w0, w1, q⟩ := h
    have nd := sc_L_any.nd
    refine ⟨_, pss_one (ps_ret (pe_callTy call_tuple_of (by rfl) B.tuple (by decide +kernel) (pa_cons (pe_lc (own := [("_law_k", 3)]) (g := gName 3) (tt := tYes) rfl nd (pi_range1 rfl B.range (pa_cons (pv 1) pa_nil)) (blkOk_by (N := N_L_any) (sc := defScope s_L_any) (by decide +kernel))
      (fun _ _ _ _ _ => pg_name (i := 3) nd rfl (.inl rfl)) (fun _ _ _ _ _ => pts_nil) (fun _ _ _ _ _ => pe_op op_add pe_int (pe_cl DN GN hr (pa_cons (pv 0) (pa_cons (pv 2) pa_nil))))) pa_nil))), ?_⟩
    refine ⟨.int (m : Int), rfl, _, rfl, by omega, by omega, fun D hDn => lc_range (n := (m : Int).toNat) (fun i Hx => ∃ ns : List Int, Hx D = some (.lst (ns.map V.int)) ∧ ns.length = i ∧ (∀ x ∈ ns, LvOk x) ∧ Dr Hx d c r (n + i) ∧ Kp d r H Hx) ⟨[], upd_same, rfl, fun x hx => by simp at hx, hD.new hDn, Kp.new hDn⟩ (fun i Hx hi hP => ?_) (fun Hx hP => ?_)⟩
    · obtain ⟨ns, h1, h2, h3, h4, h5⟩ := hP
      have nD := hD.ne hDn
      refine ⟨rfl, .ref d, rfl, .int wd, rfl, d, c, r, n + i, wd, rfl, h4, by omega, w0, by omega, fun H2 k2 l2 D2 kp2 => ?_⟩
      have hD2 : H2 D = some (.lst (ns.map V.int)) := kp2 D _ h1 nD.1 nD.2.2
      refine ⟨_, _, rfl, rfl, ns.map V.int, hD2, by rw [List.length_map]; exact small1000 (by omega), ns ++ [1 + (k2 : Int)], ?_, by rw [List.length_append, h2]; rfl, ?_, D2.upd nD.1 nD.2.1 nD.2.2, ?_⟩
      · rw [upd_same, List.map_append]; rfl
      · intro x hx
        rcases List.mem_append.mp hx with hx | hx
        · exact h3 x hx
        · rw [List.mem_singleton.mp hx]; exact ⟨by omega, by omega⟩
      · intro b o e n1 n2
        rw [upd_ne (ne_of_none e hDn)]
        exact kp2 b o (h5 b o e n1 n2) n1 n2
    · obtain ⟨ns, h1, h2, h3, h4, h5⟩ := hP
      have e2 : (m : Int).toNat = m := by omega
      rw [e2] at h2 h4
      refine ⟨D, _, rfl, .inl ⟨SqL.of h1, fun p hp => ?_⟩⟩
      exact q _ _ ns ⟨p, rfl, SqT.of upd_same⟩ h2 h3 (h4.new hp) (h5.trans (Kp.new hp))
/-! ### levels raised -/
def sp_raised (K : PySem.W.Frag) : Sp := fun vs H Q _ => ∃ (d c r : Addr) (n : Nat) (tv : V) (t : List (List Int)) (g : Addr) (gs : List Int), vs = [.ref d, tv, .ref g] ∧ Dr H d c r n ∧ n ≤ 800000 ∧ TT K H tv t ∧ WT t ∧ t.length ≤ 20 ∧ H g = some (.lst (gs.map V.int)) ∧ g ≠ d ∧ g ≠ r ∧ GrOk gs ∧
  ∀ (H' : Hp) (v : V) (t' : List (List Int)), TT K H' v t' → WT t' → t'.length = t.length → Dr H' d c r (n + 400) → Kp d r H H' → Q v H'
theorem ok_raised {f fN fO : Addr} {fd fdN fdO : FuncData} (F : Fun K "_law_raised" "_law_raised" s_L_raised f fd) (DN : Df K mg "_law_next" s_L_next fN fdN ["_law_drawn", "_law_many"]) (DO : Df K mg "_law_one" s_L_one fO fdO ["_law_drawn", "_law_items"]) (B : Bi mg) :
    FnOk P w K mg base CX0 3 f fd ["_law_drawn", "_law_table_here", "_law_grades_here"] (sp_raised K) := by
  have GO : FnOk P w K mg base CX0 2 fO fdO ["_law_drawn", "_law_items"] (sp_one K) := ok_one DO.F DN B
  refine F.ok sc_L_raised (fun vs H Q E h => ?_) (fun cdv A outer s H vs Q E hr h => ?_)
  · obtain ⟨d, c, r, n, tv, t, g, gs, rfl, _⟩ := h
    rfl
  · obtain ⟨d, c, r, n, tv, t, g, gs, rfl, hD, hn, ⟨tp, rs, rfl, htp, hR⟩, hT, h20, hg, gd, gr, hG, q⟩ := h
    have nd := sc_L_raised.nd
    refine ⟨_, pss_cons (ps_set (i := 3) nd rfl (.inl rfl) (pe_lst pa_nil))
      (pss_cons (ps_for PassesOwn.never rfl (pi_tup (pv 1)) (pg_name (i := 4) nd rfl (.inl rfl))
        (pss_one (ps_expr (pe_bm PySem.F.plainAttrs_list PySem.F.slot_list_append PySem.F.type_list_append mt_append (pv 3) (pa_cons (pe_callTy call_tuple_of (by rfl) B.tuple (by decide +kernel) (pa_cons
          (pe_lc (own := [("_law_level_here", 5)]) (g := gName 5) (tt := tYes) rfl nd (pi_tup (pv 4)) (blkOk_by (N := N_L_raised) (sc := defScope s_L_raised) (by decide +kernel))
            (fun _ _ _ _ _ => pg_name (i := 5) nd rfl (.inl rfl)) (fun _ _ _ _ _ => pts_nil) (fun _ _ _ _ _ => pe_callB (call_max2 rfl) (by rfl) B.max (by decide +kernel) (pa_cons (pv 5) (pa_cons (pe_cl DO GO hr (pa_cons (pv 0) (pa_cons (pe_op op_cat (pv 2) (pe_lst (pa_cons pe_int (pa_cons pe_int pa_nil)))) pa_nil))) pa_nil)))) pa_nil)) pa_nil)))))
      (pss_one (ps_ret (pe_callTy call_tuple_of (by rfl) B.tuple (by decide +kernel) (pa_cons (pv 3) pa_nil))))), ?_⟩
    refine ⟨Nat.zero_le _, fun o ho => ?_⟩
    have no := hD.ne ho
    refine ⟨.ref tp, rfl, tp, rfl, ⟨_, (Sm.new ho).sqT htp⟩, for_tup (xs := rs) (fun i σ Hx => ∃ x4 xs t', σ = [some (.ref d), some (.ref tp), some (.ref g), some (.ref o), x4, none] ∧ Hx o = some (.lst xs) ∧ Rows K Hx xs t' ∧ WT t' ∧ t'.length = i ∧ Dr Hx d c r (n + 20 * i) ∧ Kp d r H Hx)
      ⟨none, [], [], rfl, upd_same, Rows.nil, WT.nil, rfl, hD.new ho, Kp.new ho⟩ (fun i σ Hx hi hP => ?_) (fun i v σ Hx hv hP => ?_) (fun σ Hx hP => ?_)⟩
    · obtain ⟨x4, xs, t', _, _, _, _, _, _, hk⟩ := hP
      exact hD.kpT hk htp
    · obtain ⟨x4, xs, t', rfl, hx, hR', hT', hl, hDx, hk⟩ := hP
      have hir : i < rs.length := (List.getElem?_eq_some_iff.mp hv).1
      have hit : i < t.length := by rw [← hR.1]; exact hir
      obtain ⟨v', p, hv', rfl, hp⟩ := hR.get hit
      obtain rfl : v = .ref p := Option.some.inj (hv.symm.trans hv')
      obtain ⟨l1, l2⟩ := hT.row hit
      have hpx := hD.kpT hk hp
      refine ⟨.ref o, rfl, .inl ⟨rfl, _, SqL.of hx⟩, .ref p, rfl, p, rfl, ⟨_, hpx⟩, fun D hDn => lc_tup (xs := (t.getD i []).map V.int) (fun j Hy => ∃ ns : List Int, Hy D = some (.lst (ns.map V.int)) ∧ ns.length = j ∧ (∀ x ∈ ns, LvOk x) ∧ Dr Hy d c r (n + 20 * i + j) ∧ Kp d r Hx Hy) ⟨[], upd_same, rfl, fun x hx => by simp at hx, hDx.new hDn, Kp.new hDn⟩ (fun j Hy hj hP => ?_) (fun j y Hy hy hP => ?_) (fun Hy hP => ?_)⟩
      · obtain ⟨ns, _, _, _, _, h5⟩ := hP
        exact hDx.kpT h5 hpx
      · obtain ⟨ns, h1, h2, h3, h4, h5⟩ := hP
        obtain ⟨y0, hy0, rfl⟩ := gr_at l2 hy
        have hj : j < i := by
          have := (List.getElem?_eq_some_iff.mp hy).1
          rw [List.length_map] at this
          omega
        have nD := hDx.ne hDn
        have hgy : Hy g = some (.lst (gs.map V.int)) := h5 g _ (hk g _ hg gd gr) gd gr
        refine ⟨rfl, .int y0, rfl, .ref d, rfl, .ref g, rfl, (by show 2 ≤ sizeLine; decide), fun p1 hp1 => ?_⟩
        have hg1 : (upd Hy p1 (.lst [.int 1, .int 1])) g = some (.lst (gs.map V.int)) := Sm.new hp1 _ _ hgy
        refine ⟨g, p1, _, _, rfl, rfl, hg1, upd_same, by rw [List.length_map]; have := hG.2.1; exact Nat.le_of_lt (small1000 (show gs.length + 2 ≤ 1000 by omega)), fun p2 hp2 => ?_⟩
        have Dy2 := (h4.new (o := .lst [.int 1, .int 1]) hp1).new (o := .lst (gs.map V.int ++ [.int 1, .int 1])) hp2
        have np2 := (h4.new (o := .lst [.int 1, .int 1]) hp1).ne hp2
        refine ⟨d, c, r, _, p2, _, rfl, Dy2, by omega, SqL.of upd_same, np2.1, np2.2.2, by rw [List.length_append]; show 0 < _ + 2; omega, by rw [List.length_append, List.length_map]; have := hG.2.1; show _ + 2 ≤ 1000; omega, fun H3 i3 v3 hv3 D3 kp3 => ?_⟩
        obtain ⟨lv, hlv, rfl⟩ : ∃ lv : Int, LvOk lv ∧ v3 = .int lv := by
          refine gr_at (gs := gs ++ [1, 1]) (fun x hx => ?_) (by rw [List.map_append]; exact hv3)
          rcases List.mem_append.mp hx with hx | hx
          · exact hG.2.2 x hx
          · rcases List.mem_cons.mp hx with hx | hx
            · rw [hx]; exact ⟨by decide, by decide⟩
            · rw [List.mem_singleton.mp hx]; exact ⟨by decide, by decide⟩
        have kq : Kp d r Hy H3 := ((Kp.new hp1).trans (Kp.new hp2)).trans kp3
        have hD3 : H3 D = some (.lst (ns.map V.int)) := kq D _ h1 nD.1 nD.2.2
        refine ⟨_, _, rfl, ns.map V.int, hD3, by rw [List.length_map]; exact small1000 (by omega), ns ++ [if lv > y0 then lv else y0], ?_, by rw [List.length_append, h2]; rfl, ?_, (D3.upd nD.1 nD.2.1 nD.2.2), ?_⟩
        · rw [upd_same, List.map_append]; rfl
        · intro x hx
          rcases List.mem_append.mp hx with hx | hx
          · exact h3 x hx
          · rw [List.mem_singleton.mp hx]
            split
            · exact hlv
            · exact hy0
        · intro b u e n1 n2
          rw [upd_ne (ne_of_none e hDn)]
          exact kq b u (h5 b u e n1 n2) n1 n2
      · obtain ⟨ns, h1, h2, h3, h4, h5⟩ := hP
        rw [List.length_map, l1] at h2 h4
        have hxy : Hy o = some (.lst xs) := h5 o _ hx no.1 no.2.2
        refine ⟨D, _, rfl, .inl ⟨SqL.of h1, fun p5 hp5 => ?_⟩⟩
        have hx5 : (upd Hy p5 (.tup (ns.map V.int))) o = some (.lst xs) := Sm.new hp5 _ _ hxy
        have hxl : xs.length = i := by rw [hR'.1, hl]
        refine ⟨o, _, _, rfl, rfl, hx5, small1000 (by omega), ?_⟩
        have R5 : Rows K (upd Hy p5 (.tup (ns.map V.int))) (xs ++ [.ref p5]) (t' ++ [ns]) := ((hR'.kp hDx h5).same (Sm.new hp5)).snoc ⟨p5, rfl, SqT.of upd_same⟩
        refine ⟨_, _, _, rfl, upd_same, R5.upd hx5, hT'.snoc (by omega) h3, by rw [List.length_append, hl]; rfl, ((h4.new hp5).upd no.1 no.2.1 no.2.2).mono (by omega), ?_⟩
        intro b u e n1 n2
        rw [upd_ne (ne_of_none e ho)]
        exact Sm.new hp5 _ _ (h5 b u (hk b u e n1 n2) n1 n2)
    · obtain ⟨x4, xs, t', rfl, hx, hR', hT', hl, hDx, hk⟩ := hP
      refine ⟨.ref o, rfl, o, xs, rfl, .inl ⟨SqL.of hx, fun p hp => ?_⟩⟩
      have hrl := hR.1
      exact q _ _ t' ⟨p, xs, rfl, SqT.of upd_same, hR'.same (Sm.new hp)⟩ hT' (by omega) ((hDx.new hp).mono (by omega)) (hk.trans (Kp.new hp))
end
section
variable {P : Program} {w : World} {K : PySem.W.Frag} {mg : Str → Option Value} {base : Heap}
/-! ### tables -/
def sp_table (K : PySem.W.Frag) : Sp := fun vs H Q _ => ∃ (d c r : Addr) (n cnt : Nat), vs = [.ref d, .int (cnt : Int)] ∧ Dr H d c r n ∧ n ≤ 700000 ∧ 1 ≤ cnt ∧ cnt ≤ 20 ∧
  ∀ (H' : Hp) (v : V) (t : List (List Int)), TT K H' v t → WT t → t.length = cnt → Dr H' d c r (n + 500) → Kp d r H H' → Q v H'
structure DrawDefs (K : PySem.W.Frag) (mg : Str → Option Value) : Prop where
  B : Bi mg
  next : ∃ f fd, Df K mg "_law_next" s_L_next f fd ["_law_drawn", "_law_many"]
  one : ∃ f fd, Df K mg "_law_one" s_L_one f fd ["_law_drawn", "_law_items"]
  count : ∃ f fd, Df K mg "_law_count" s_L_count f fd ["_law_drawn", "_law_most"]
  grades : ∃ f fd, Df K mg "_law_grades" s_L_grades f fd ["_law_drawn"]
  level : ∃ f fd, Df K mg "_law_level" s_L_level f fd ["_law_table_here", "_law_one_here", "_law_other"]
  nested : ∃ f fd, Df K mg "_law_nested" s_L_nested f fd ["_law_drawn", "_law_count_here", "_law_grades_here"]
  raised : ∃ f fd, Df K mg "_law_raised" s_L_raised f fd ["_law_drawn", "_law_table_here", "_law_grades_here"]
  levels : ∃ f fd, Df K mg "_law_levels" s_L_levels f fd ["_law_drawn", "_law_many", "_law_grades_here"]
  any : ∃ f fd, Df K mg "_law_any" s_L_any f fd ["_law_drawn", "_law_many", "_law_wide"]
theorem ok_table {f : Addr} {fd : FuncData} (F : Fun K "_law_table" "_law_table" s_L_table f fd) (T : DrawDefs K mg) : FnOk P w K mg base CX0 4 f fd ["_law_drawn", "_law_count_here"] (sp_table K) := by
  have B := T.B
  obtain ⟨fN, fdN, DN⟩ := T.next
  obtain ⟨fO, fdO, DO⟩ := T.one
  obtain ⟨fG, fdG, DG⟩ := T.grades
  obtain ⟨fL, fdL, DL⟩ := T.level
  obtain ⟨fE, fdE, DE⟩ := T.nested
  obtain ⟨fR, fdR, DR⟩ := T.raised
  obtain ⟨fS, fdS, DS⟩ := T.levels
  obtain ⟨fA, fdA, DA⟩ := T.any
  have GN : FnOk P w K mg base CX0 3 fN fdN ["_law_drawn", "_law_many"] sp_next := ok_next DN.F B
  have GO : FnOk P w K mg base CX0 3 fO fdO ["_law_drawn", "_law_items"] (sp_one K) := (ok_one DO.F DN B).mono (by decide)
  have GG : FnOk P w K mg base CX0 3 fG fdG ["_law_drawn"] sp_grades := (ok_grades DG.F DN B).mono (by decide)
  have GE : FnOk P w K mg base CX0 3 fE fdE ["_law_drawn", "_law_count_here", "_law_grades_here"] (sp_nested K) := ok_nested DE.F DN DO DL B
  have GR : FnOk P w K mg base CX0 3 fR fdR ["_law_drawn", "_law_table_here", "_law_grades_here"] (sp_raised K) := ok_raised DR.F DN DO B
  have GS : FnOk P w K mg base CX0 3 fS fdS ["_law_drawn", "_law_many", "_law_grades_here"] (sp_levels K) := ok_levels DS.F DN DO B
  have GA : FnOk P w K mg base CX0 3 fA fdA ["_law_drawn", "_law_many", "_law_wide"] (sp_any K) := ok_any DA.F DN B
  refine F.ok sc_L_table (fun vs H Q E h => ?_) (fun cdv A outer s H vs Q E hr h => ?_)
  · obtain ⟨d, c, r, n, cnt, rfl, _⟩ := h
    rfl
  · obtain ⟨d, c, r, n, cnt, rfl, hD, hn, c1, c2, q⟩ := h
    have nd := sc_L_table.nd
    refine ⟨_, pss_cons (ps_asg (pe_tup (pa_cons (pe_cl DG GG hr (pa_cons (pv 0) pa_nil)) (pa_cons (pe_cl DN GN hr (pa_cons (pv 0) (pa_cons pe_int pa_nil))) pa_nil)))
            (pg_tup rfl (pgs_cons (pg_name (i := 2) nd rfl (.inr rfl)) (pgs_cons (pg_name (i := 3) nd rfl (.inl rfl)) pgs_nil))))
      (pss_cons (ps_if (pt_cmpR op_eq (pv 3) pe_int (nomark _)) (pss_one (ps_ret (pe_callTy call_tuple_of (by rfl) B.tuple (by decide +kernel) (pa_cons
          (pe_lc (own := [("_law_one_here", 4)]) (g := gName 4) (tt := tYes) rfl nd (pi_range1 rfl B.range (pa_cons (pv 1) pa_nil)) (blkOk_by (N := N_L_table) (sc := defScope s_L_table) (by decide +kernel))
            (fun _ _ _ _ _ => pg_name (i := 4) nd rfl (.inl rfl)) (fun _ _ _ _ _ => pts_nil) (fun _ _ _ _ _ => pe_cl DS GS hr (pa_cons (pv 0) (pa_cons (pv 4) (pa_cons (pv 2) pa_nil))))) pa_nil)))) pss_nil)
      (pss_cons (ps_if (pt_cmpR op_eq (pv 3) pe_int (nomark _)) (pss_cons (ps_set (i := 5) nd rfl (.inr rfl) (pe_cl DO GO hr (pa_cons (pv 0) (pa_cons (pe_lst (pa_cons pe_int (pa_cons pe_int (pa_cons (pe_op op_pow pe_int pe_int) pa_nil)))) pa_nil))))
          (pss_one (ps_ret (pe_callTy call_tuple_of (by rfl) B.tuple (by decide +kernel) (pa_cons
          (pe_lc (own := [("_law_one_here", 4)]) (g := gName 4) (tt := tYes) rfl nd (pi_range1 rfl B.range (pa_cons (pv 1) pa_nil)) (blkOk_by (N := N_L_table) (sc := defScope s_L_table) (by decide +kernel))
            (fun _ _ _ _ _ => pg_name (i := 4) nd rfl (.inl rfl)) (fun _ _ _ _ _ => pts_nil) (fun _ _ _ _ _ => pe_cl DA GA hr (pa_cons (pv 0) (pa_cons (pv 4) (pa_cons (pv 5) pa_nil))))) pa_nil))))) pss_nil)
      (pss_cons (ps_set (i := 6) nd rfl (.inl rfl) (pe_cl DE GE hr (pa_cons (pv 0) (pa_cons (pv 1) (pa_cons (pv 2) pa_nil)))))
      (pss_cons (ps_if (PW.pt (pw_or (pt_cmpR op_eq (pv 3) pe_int (nomark _)) (pw_or1 (pt_cmpR op_eq (pv 1) pe_int (nomark _))))) (pss_one (ps_ret (pv 6))) pss_nil)
      (pss_cons (ps_if (pt_cmpR op_eq (pv 3) pe_int (nomark _)) (pss_one (ps_ret (pe_cl DR GR hr (pa_cons (pv 0) (pa_cons (pv 6) (pa_cons (pv 2) pa_nil)))))) pss_nil)
      (pss_cons (ps_set (i := 4) nd rfl (.inl rfl) (pe_op op_add pe_int (pe_cl DN GN hr (pa_cons (pv 0) (pa_cons (pe_op op_sub (pv 1) pe_int) pa_nil)))))
      (pss_cons (ps_par (i := 7) (j := 8) rfl nd rfl rfl (by decide) rfl rfl (pa_cons (pe_cl DN GN hr (pa_cons (pv 0) (pa_cons (pv 4) pa_nil))) (pa_cons (pe_cl DO GO hr (pa_cons (pv 0) (pa_cons (pe_op op_cat (pv 2) (pe_lst (pa_cons pe_int (pa_cons (pe_op op_pow pe_int pe_int) pa_nil)))) pa_nil))) pa_nil)) rfl)
      (pss_cons (ps_set (i := 9) nd rfl (.inl rfl) (pe_op op_catW (pe_op op_catW (pe_slice sl_tupW (pe_ix ix_tup (pv 6) (pv 4) (fun _ _ => rfl)) po_none (po_some (pv 7))) (pe_tup (pa_cons (pv 8) pa_nil))) (pe_slice sl_tupW (pe_ix ix_tup (pv 6) (pv 4) (fun _ _ => rfl)) (po_some (pe_op op_add (pv 7) pe_int)) po_none)))
      (pss_one (ps_ret (pe_op op_catW (pe_op op_catW (pe_slice sl_tupW (pv 6) po_none (po_some (pv 4))) (pe_tup (pa_cons (pv 9) pa_nil))) (pe_slice sl_tupW (pv 6) (po_some (pe_op op_add (pv 4) pe_int)) po_none)))))))))))), ?_⟩
    -- grades, way
    refine ⟨.ref d, rfl, d, c, r, n, rfl, hD, by omega, fun H1 g gs hg0 hg1 hG D1 kp1 gd gc gr => ?_⟩
    refine ⟨.ref d, rfl, d, c, r, _, 5, rfl, D1, by omega, by decide, by decide, fun H2 way lw D2 kp2 => ?_⟩
    refine ⟨(by show 2 ≤ sizeLine; decide), fun p3 hp3 => ?_⟩
    refine ⟨p3, _, rfl, SqT.of upd_same, rfl, _, _, rfl, _, _, rfl, rfl, ?_⟩
    have hg2 : H2 g = some (.lst (gs.map V.int)) := kp2 g _ hg1 gd gr
    have hg3 : (upd H2 p3 (.tup [.ref g, .int (way : Int)])) g = some (.lst (gs.map V.int)) := Sm.new hp3 _ _ hg2
    have D3 := D2.new (o := .tup [.ref g, .int (way : Int)]) hp3
    have k3 : Kp d r H (upd H2 p3 (.tup [.ref g, .int (way : Int)])) := (kp1.trans kp2).trans (Kp.new hp3)
    generalize upd H2 p3 (.tup [.ref g, .int (way : Int)]) = H3 at D3 hg3 k3
    -- way 0
    refine ⟨.int (way : Int), rfl, rfl, _, rfl, ite2 (fun e => ?_) (fun e0 => ?_)⟩
    · refine ⟨.int (cnt : Int), rfl, _, rfl, by omega, by omega, fun D hDn => lc_range (n := (cnt : Int).toNat) (fun i Hx => ∃ xs t, Hx D = some (.lst xs) ∧ Rows K Hx xs t ∧ WT t ∧ t.length = i ∧ Dr Hx d c r (n + 10 + 20 * i) ∧ Kp d r H3 Hx) ⟨[], [], upd_same, Rows.nil, WT.nil, rfl, D3.new hDn, Kp.new hDn⟩ (fun i Hx hi hP => ?_) (fun Hx hP => ?_)⟩
      · obtain ⟨xs, t, h1, h2, h3, h4, h5, h6⟩ := hP
        have nD := D3.ne hDn
        refine ⟨rfl, .ref d, rfl, .int (0 + (i : Int)), rfl, .ref g, rfl, d, c, r, _, i, g, gs, by rw [Int.zero_add]; rfl, h5, by omega, by omega, SqL.of (h6 g _ hg3 gd gr), gd, gr, hG, fun H4 v ns hv hl hL D4 kp4 => ?_⟩
        have hD4 : H4 D = some (.lst xs) := kp4 D _ h1 nD.1 nD.2.2
        have hxl := h2.1
        refine ⟨xs, hD4, small1000 (by omega), xs ++ [v], t ++ [ns], upd_same, ((h2.kp h5 kp4).snoc hv).upd hD4, h3.snoc (by omega) hL, by rw [List.length_append, h4]; rfl, (D4.upd nD.1 nD.2.1 nD.2.2).mono (by omega), ?_⟩
        intro b o e n1 n2
        rw [upd_ne (ne_of_none e hDn)]
        exact kp4 b o (h6 b o e n1 n2) n1 n2
      · obtain ⟨xs, t, h1, h2, h3, h4, h5, h6⟩ := hP
        refine ⟨D, _, rfl, .inl ⟨SqL.of h1, fun p hp => ?_⟩⟩
        exact q _ _ t ⟨p, xs, rfl, SqT.of upd_same, h2.same (Sm.new hp)⟩ h3 (by omega) ((h5.new hp).mono (by omega)) (k3.trans (h6.trans (Kp.new hp)))
    -- way 1
    refine ⟨.int (way : Int), rfl, rfl, _, rfl, ite2 (fun e => ?_) (fun e1 => ?_)⟩
    · refine ⟨.ref d, rfl, _, _, rfl, rfl, ⟨by decide, by decide, by decide⟩, (by show 3 ≤ sizeLine; decide), fun p4 hp4 => ?_⟩
      have np4 := D3.ne hp4
      have D4 := D3.new (o := .lst [.int 3, .int 20, .int (10 ^ (12 : Int).toNat)]) hp4
      refine ⟨d, c, r, _, p4, _, rfl, D4, by omega, SqL.of upd_same, np4.1, np4.2.2, by decide, by decide, fun H5 i5 v5 hv5 D5 kp5 => ?_⟩
      obtain ⟨wd, rfl, w0, w1⟩ : ∃ wd : Int, v5 = .int wd ∧ 0 < wd ∧ wd ≤ 1000000000000 := by
        match i5, hv5 with
        | 0, h => exact ⟨3, (Option.some.inj h).symm, by decide, by decide⟩
        | 1, h => exact ⟨20, (Option.some.inj h).symm, by decide, by decide⟩
        | 2, h => exact ⟨10 ^ (12 : Int).toNat, (Option.some.inj h).symm, by decide, by decide⟩
        | k + 3, h => simp at h
      have k5 : Kp d r H H5 := k3.trans ((Kp.new hp4).trans kp5)
      refine ⟨.int (cnt : Int), rfl, _, rfl, by omega, by omega, fun D hDn => lc_range (n := (cnt : Int).toNat) (fun i Hx => ∃ xs t, Hx D = some (.lst xs) ∧ Rows K Hx xs t ∧ WT t ∧ t.length = i ∧ Dr Hx d c r (n + 11 + 20 * i) ∧ Kp d r H5 Hx) ⟨[], [], upd_same, Rows.nil, WT.nil, rfl, D5.new hDn, Kp.new hDn⟩ (fun i Hx hi hP => ?_) (fun Hx hP => ?_)⟩
      · obtain ⟨xs, t, h1, h2, h3, h4, h5, h6⟩ := hP
        have nD := D5.ne hDn
        refine ⟨rfl, .ref d, rfl, .int (0 + (i : Int)), rfl, .int wd, rfl, d, c, r, _, i, wd, by rw [Int.zero_add]; rfl, h5, by omega, by omega, w0, w1, fun H4 v ns hv hl hL D4 kp4 => ?_⟩
        have hD4 : H4 D = some (.lst xs) := kp4 D _ h1 nD.1 nD.2.2
        have hxl := h2.1
        refine ⟨xs, hD4, small1000 (by omega), xs ++ [v], t ++ [ns], upd_same, ((h2.kp h5 kp4).snoc hv).upd hD4, h3.snoc (by omega) hL, by rw [List.length_append, h4]; rfl, (D4.upd nD.1 nD.2.1 nD.2.2).mono (by omega), ?_⟩
        intro b o e n1 n2
        rw [upd_ne (ne_of_none e hDn)]
        exact kp4 b o (h6 b o e n1 n2) n1 n2
      · obtain ⟨xs, t, h1, h2, h3, h4, h5, h6⟩ := hP
        refine ⟨D, _, rfl, .inl ⟨SqL.of h1, fun p hp => ?_⟩⟩
        exact q _ _ t ⟨p, xs, rfl, SqT.of upd_same, h2.same (Sm.new hp)⟩ h3 (by omega) ((h5.new hp).mono (by omega)) (k5.trans (h6.trans (Kp.new hp)))
    -- a nested one
    refine ⟨.ref d, rfl, .int (cnt : Int), rfl, .ref g, rfl, d, c, r, _, cnt, g, gs, rfl, D3, by omega, c1, c2, SqL.of hg3, gd, gr, hG, fun H4 tv t hTT hWT htl D4 kp4 => ?_⟩
    have hg4 : H4 g = some (.lst (gs.map V.int)) := kp4 g _ hg3 gd gr
    have k4 : Kp d r H H4 := k3.trans kp4
    refine ⟨.int (way : Int), rfl, rfl, _, rfl, ?_⟩
    refine ite2 (fun e => iteT ⟨_, rfl, q H4 tv t hTT hWT htl (D4.mono (by omega)) k4⟩) (fun e2 => ?_)
    refine ⟨.int (cnt : Int), rfl, rfl, _, rfl, ite2 (fun e => ⟨_, rfl, q H4 tv t hTT hWT htl (D4.mono (by omega)) k4⟩) (fun e3 => ?_)⟩
    have hcnt : cnt ≠ 1 := fun z => e3 (decide_eq_true (by rw [z]; rfl))
    refine ⟨.int (way : Int), rfl, rfl, _, rfl, ite2 (fun e => ?_) (fun e4 => ?_)⟩
    · exact ⟨.ref d, rfl, _, rfl, .ref g, rfl, d, c, r, _, tv, t, g, gs, rfl, D4, by omega, hTT, hWT, by omega, hg4, gd, gr, hG, fun H5 v t' h1 h2 h3 D5 kp5 => q H5 v t' h1 h2 (by omega) (D5.mono (by omega)) (k4.trans kp5)⟩
    -- one level changed
    refine ⟨.ref d, rfl, .int (cnt : Int), rfl, _, _, rfl, rfl, d, c, r, _, _, rfl, D4, by omega, by omega, by omega, fun H5 k5 l5 D5 kp5 => ?_⟩
    refine ⟨_, _, rfl, rfl, ?_⟩
    dsimp only
    rw [show (1 : Int) + (k5 : Int) = ((1 + k5 : Nat) : Int) by omega]
    obtain ⟨o1, ho1⟩ : ∃ o1, o1 = 1 + k5 := ⟨_, rfl⟩
    rw [← ho1]
    have ho1l : o1 < cnt := by omega
    refine ⟨.ref d, rfl, .int (o1 : Int), rfl, d, c, r, _, _, rfl, D5, by omega, by omega, by omega, fun H6 k6 l6 D6 kp6 => ?_⟩
    have hg6 : H6 g = some (.lst (gs.map V.int)) := kp6 g _ (kp5 g _ hg4 gd gr) gd gr
    refine ⟨.ref d, rfl, .ref g, rfl, _, _, rfl, rfl, ⟨by decide, by decide, by decide⟩, (by show 2 ≤ sizeLine; decide), fun p7 hp7 => ?_⟩
    have hg7 : (upd H6 p7 (.lst [.int 1, .int (10 ^ (12 : Int).toNat)])) g = some (.lst (gs.map V.int)) := Sm.new hp7 _ _ hg6
    refine ⟨g, p7, _, _, rfl, rfl, hg7, upd_same, by rw [List.length_map]; have := hG.2.1; exact Nat.le_of_lt (small1000 (show gs.length + 2 ≤ 1000 by omega)), fun p8 hp8 => ?_⟩
    have D8 := (D6.new (o := .lst [.int 1, .int (10 ^ (12 : Int).toNat)]) hp7).new (o := .lst (gs.map V.int ++ [.int 1, .int (10 ^ (12 : Int).toNat)])) hp8
    have np8 := (D6.new (o := .lst [.int 1, .int (10 ^ (12 : Int).toNat)]) hp7).ne hp8
    refine ⟨d, c, r, _, p8, _, rfl, D8, by omega, SqL.of upd_same, np8.1, np8.2.2, by rw [List.length_append]; show 0 < _ + 2; omega, by rw [List.length_append, List.length_map]; have := hG.2.1; show _ + 2 ≤ 1000; omega, fun H9 i9 v9 hv9 D9 kp9 => ?_⟩
    obtain ⟨lv, hlv, rfl⟩ : ∃ lv : Int, LvOk lv ∧ v9 = .int lv := by
      refine gr_at (gs := gs ++ [1, 10 ^ (12 : Int).toNat]) (fun x hx => ?_) (by rw [List.map_append]; exact hv9)
      rcases List.mem_append.mp hx with hx | hx
      · exact hG.2.2 x hx
      · rcases List.mem_cons.mp hx with hx | hx
        · rw [hx]; exact ⟨by decide, by decide⟩
        · rw [List.mem_singleton.mp hx]; exact ⟨by decide, by decide⟩
    refine ⟨_, _, rfl, ?_⟩
    have kA : Kp d r H4 H9 := (kp5.trans kp6).trans (((Kp.new hp7).trans (Kp.new hp8)).trans kp9)
    have k9 : Kp d r H H9 := k4.trans kA
    obtain ⟨tp, rs, rfl, htp, hR⟩ := hTT.kp D4 kA
    have hrl := hR.1
    obtain ⟨rv, rp, hrv, rfl, hrp⟩ := hR.get (i := o1) (by omega)
    obtain ⟨l1, l2⟩ := hWT.row (i := o1) (by omega)
    have hk6 : k6 < o1 := by omega
    generalize hrow : t.getD o1 [] = row at hrp l1 l2
    -- row
    refine ⟨.ref tp, rfl, .int (o1 : Int), rfl, tp, rs, _, _, rfl, rfl, htp, atI_nat hrv, .int (k6 : Int), rfl, _, rfl, rp, _, rfl, hrp, fun pa Ha sa ha => ?_⟩
    refine ⟨.int lv, rfl, (by show 1 ≤ sizeLine; decide), fun pb hpb => ?_⟩
    have sb : Sm Ha (upd Ha pb (.tup [.int lv])) := Sm.new hpb
    refine ⟨pa, pb, _, _, rfl, rfl, sb.sqT ha, SqT.of upd_same, ?_, fun pc Hc sc hc => ?_⟩
    · have z := cutV_length (row.map V.int) none (some (k6 : Int))
      rw [List.length_map] at z
      exact Nat.le_of_lt (small1000 (show (cutV (row.map V.int) none (some (k6 : Int))).length + 1 ≤ 1000 by omega))
    have s1 := (sa.trans sb).trans sc
    refine ⟨.ref tp, rfl, .int (o1 : Int), rfl, tp, rs, _, _, rfl, rfl, s1.sqT htp, atI_nat hrv, .int (k6 : Int), rfl, _, _, rfl, rfl, _, rfl, rp, _, rfl, s1.sqT hrp, fun pd Hd sd hd => ?_⟩
    rw [show (k6 : Int) + 1 = ((k6 + 1 : Nat) : Int) by omega, cut_from] at hd
    rw [cut_to] at hc
    refine ⟨pc, pd, _, _, rfl, rfl, sd.sqT hc, hd, ?_, fun pe He se he => ?_⟩
    · rw [List.length_append, List.length_take, List.length_drop, List.length_map]
      exact Nat.le_of_lt (small1000 (show min k6 row.length + 1 + (row.length - (k6 + 1)) ≤ 1000 by omega))
    have s2 := (s1.trans sd).trans se
    rw [set_parts _ _ _ (by rw [List.length_map]; omega), ← List.map_set] at he
    -- the table
    refine ⟨.ref tp, rfl, .int (o1 : Int), rfl, _, rfl, tp, rs, rfl, s2.sqT htp, fun pf Hf sf hf => ?_⟩
    refine ⟨.ref pe, rfl, (by show 1 ≤ sizeLine; decide), fun pg hpg => ?_⟩
    have sg : Sm Hf (upd Hf pg (.tup [.ref pe])) := Sm.new hpg
    rw [cut_to] at hf
    refine ⟨pf, pg, _, _, rfl, rfl, sg.sqT hf, SqT.of upd_same, ?_, fun ph Hh sh hh => ?_⟩
    · rw [List.length_take]
      exact Nat.le_of_lt (small1000 (show min o1 rs.length + 1 ≤ 1000 by omega))
    have s3 := ((s2.trans sf).trans sg).trans sh
    refine ⟨.ref tp, rfl, .int (o1 : Int), rfl, _, _, rfl, rfl, _, rfl, tp, rs, rfl, s3.sqT htp, fun pi Hi si hi => ?_⟩
    rw [show (o1 : Int) + 1 = ((o1 + 1 : Nat) : Int) by omega, cut_from] at hi
    refine ⟨ph, pi, _, _, rfl, rfl, si.sqT hh, hi, ?_, fun pj Hj sj hj => ?_⟩
    · rw [List.length_append, List.length_take, List.length_drop]
      exact Nat.le_of_lt (small1000 (show min o1 rs.length + 1 + (rs.length - (o1 + 1)) ≤ 1000 by omega))
    rw [set_parts _ _ _ (by omega)] at hj
    have s4 := (s3.trans si).trans sj
    have s5 : Sm He Hj := ((((sf.trans sg).trans sh).trans si).trans sj)
    refine q Hj _ (t.set o1 (row.set k6 lv)) ⟨pj, rs.set o1 (.ref pe), rfl, hj, (hR.same s4).set ⟨pe, rfl, s5.sqT he⟩⟩ (hWT.set (by rw [List.length_set]; exact l1) (fun x hx => ?_)) (by rw [List.length_set]; exact htl) ((D9.same s4).mono (by omega)) (k9.trans s4.kp)
    rcases List.mem_or_eq_of_mem_set hx with hx | hx
    · exact l2 x hx
    · rw [hx]; exact hlv
end
section
variable {P : Program} {w : World} {K : PySem.W.Frag} {mg : Str → Option Value} {base : Heap}
/-! ### the program: reading a text -/
theorem pe_removeprefix78 {X : Cx} {o e : Expr} {to te : TE} {apos pos : Pos} (ho : PE X o to) (he : PE X e te) (hs : starEach [e] X.env = [(false, eval e X.env)] := by rfl) (hbase : attributeBase o "removeprefix" X.env (eval o X.env) = eval o X.env := by rfl) (hline : (apos.endLine == pos.line) = true := by rfl) :
    PE X (.Call (.Attribute o "removeprefix" apos) [e] [] pos) (tM1 (fun x xs H Q => ∃ a b, x = .str a ∧ xs = [.str b] ∧ a.length ≤ sizeLine ∧ Q (.str (Txt.removeprefix a b)) H) to te) :=
  pe_m1 PySem.F.slot_str_removeprefix PySem.F.type_str_removeprefix mt_removeprefix ho he hs hbase hline
theorem pe_isascii78 {X : Cx} {o : Expr} {to : TE} {apos pos : Pos} (ho : PE X o to) (hbase : attributeBase o "isascii" X.env (eval o X.env) = eval o X.env := by rfl) (hline : (apos.endLine == pos.line) = true := by rfl) :
    PE X (.Call (.Attribute o "isascii" apos) [] [] pos) (tM0 (fun x xs H Q => ∃ a, x = .str a ∧ xs = [] ∧ True ∧ Q (.bl (Txt.isascii a)) H) to) :=
  pe_m0 PySem.F.slot_str_isascii PySem.F.type_str_isascii mt_isascii ho hbase hline
theorem pe_isdigit78 {X : Cx} {o : Expr} {to : TE} {apos pos : Pos} (ho : PE X o to) (hbase : attributeBase o "isdigit" X.env (eval o X.env) = eval o X.env := by rfl) (hline : (apos.endLine == pos.line) = true := by rfl) :
    PE X (.Call (.Attribute o "isdigit" apos) [] [] pos) (tM0 (fun x xs H Q => ∃ a, x = .str a ∧ xs = [] ∧ True ∧ Q (.bl (Txt.isdigit a)) H) to) :=
  pe_m0 PySem.F.slot_str_isdigit PySem.F.type_str_isdigit mt_isdigit ho hbase hline
theorem pe_lenS78 {X : Cx} {a : Expr} {ta : TE} {p pos : Pos} (B : Bi X.mg) (ha : PE X a ta) (hg : Gl X "len" := by rfl) (he : starEach [a] X.env = (false, eval a X.env) :: starEach [] X.env := by rfl) :
    PE X (.Call (.Name "len" p) [a] [] pos) (tCB (fun xs H Q => ∃ z, xs = [.str z] ∧ z.length ≤ sizeLine ∧ Q (.int z.length) H) (tCons ta tNil)) :=
  pe_callB call_len_str hg B.len PySem.boot_len (pa_cons ha pa_nil he) (by decide) (by decide) he
end
section
variable {P : Program} {w : World} {K : PySem.W.Frag} {mg : Str → Option Value} {base : Heap}
/-! ### the program on values of any kind -/
def sp_wholeD (K : PySem.W.Frag) : Sp := fun vs H Q _ => ∃ (ok : Addr → Prop) (v : V) (x : PyData), vs = [v] ∧ Da K ok H v x ∧ Q (.bl (isI x && !isB x)) H
theorem ok_wholeD {f : Addr} {fd : FuncData} {k : Nat} (F : Fun K "is_whole" "is_whole" s_is_whole f fd) (B : Bi mg) : FnOk P w K mg base CX0 (k + 1) f fd ["value"] (sp_wholeD K) := by
  refine F.ok sc_is_whole (fun vs H Q E h => ?_) (fun cdv A outer s H vs Q E hr h => ?_)
  · obtain ⟨ok, v, x, rfl, _⟩ := h
    rfl
  · obtain ⟨ok, v, x, rfl, hd, q⟩ := h
    refine ⟨_, pss_one (ps_ret (pe_and (pe_callB call_isi (by rfl) B.isinstance (by decide +kernel) (pa_cons (pv 0) (pa_cons (pe_bltn (by rfl) B.int (by decide +kernel) (v := .ty "int") rfl) pa_nil)))
      (pe_one (pe_not (pe_callB call_isi (by rfl) B.isinstance (by decide +kernel) (pa_cons (pv 0) (pa_cons (pe_bltn (by rfl) B.bool (by decide +kernel) (v := .ty "bool") rfl) pa_nil))))))), ?_⟩
    refine ⟨v, rfl, v, .ty "int", .type (tyN x), _, isI x, rfl, .ty _, hd.ty, kit_ty (kt_int x), _, rfl, ?_⟩
    cases hI : isI x with
    | false =>
      rw [hI] at q
      exact q
    | true =>
      rw [hI] at q
      exact ⟨v, rfl, v, .ty "bool", .type (tyN x), _, isB x, rfl, .ty _, hd.ty, kit_ty (kt_bool x), _, rfl, q⟩
def sp_islD (K : PySem.W.Frag) : Sp := fun vs H Q _ => ∃ (ok : Addr → Prop) (v : V) (x : PyData), vs = [v] ∧ Da K ok H v x ∧ Q (.bl (isLv x)) H
theorem ok_islD {f fW : Addr} {fd fdW : FuncData} {k : Nat} (F : Fun K "is_level" "is_level" s_is_level f fd) (DW : Df K mg "is_whole" s_is_whole fW fdW ["value"]) (gL : ∃ t, mg "LEVEL" = some (.int 1000000000000 t)) (B : Bi mg) : FnOk P w K mg base CX0 (k + 2) f fd ["value"] (sp_islD K) := by
  obtain ⟨tL, gL⟩ := gL
  have GW : FnOk P w K mg base CX0 (k + 1) fW fdW ["value"] (sp_wholeD K) := ok_wholeD DW.F B
  refine F.ok sc_is_level (fun vs H Q E h => ?_) (fun cdv A outer s H vs Q E hr h => ?_)
  · obtain ⟨ok, v, x, rfl, _⟩ := h
    rfl
  · obtain ⟨ok, v, x, rfl, hd, q⟩ := h
    refine ⟨_, pss_one (ps_ret (pe_and (pe_cl DW GW hr (pa_cons (pv 0) pa_nil)) (pe_one (pe_chain op_le op_le pe_int (pv 0) (pe_glob (v := .int 1000000000000) rfl gL ⟨_, rfl⟩))))), ?_⟩
    refine ⟨v, rfl, ok, v, x, rfl, hd, _, rfl, ?_⟩
    cases hI : isI x && !isB x with
    | false =>
      rw [isLv_int hI] at q
      exact q
    | true =>
      have h1 : isI x = true := by cases h : isI x <;> simp_all
      have h2 : isB x = false := by cases h : isB x <;> simp_all
      obtain ⟨i, rfl⟩ := isI_yes h1 h2
      cases hd
      refine ⟨.int i, rfl, _, _, rfl, rfl, _, rfl, ?_⟩
      have q' : Q (.bl (decide ((1 : Int) ≤ i) && decide (i ≤ 1000000000000))) H := q
      by_cases z : (1 : Int) ≤ i
      · rw [decide_eq_true z] at q' ⊢
        exact ⟨_, _, rfl, rfl, q'⟩
      · rw [decide_eq_false z] at q' ⊢
        exact q'
end
section
variable {P : Program} {w : World} {K : PySem.W.Frag} {mg : Str → Option Value} {base : Heap}
/-! ### the program: reading any text -/
theorem sl_small79 {n : Nat} (h : n ≤ 16000000) : n ≤ sizeLine := Nat.le_trans h (by decide)
theorem log_79 {i : Int} (h : i.natAbs < 10 ^ 13) : i.natAbs.log2 < 1920 := by
  have : i.natAbs < 2 ^ 64 := Nat.lt_trans h (by decide)
  exact Nat.lt_trans (PySem.Flt.log2_lt_of (by decide) this) (by decide)
theorem lv_facts {s : Str} {n : Int} (h0 : 0 ≤ n) (h : n ≤ 1000000000000) (e : s = (toString n : Str)) : Txt.removeprefix s ("-" : Str) = s ∧ Txt.isascii s = true ∧ Txt.isdigit s = true ∧ s.length ≤ 13 ∧ intText? s = some n ∧ s = (toString n : Str) :=
  num_facts h0 (by omega) (by rw [e, tl_int h0])
def sp_num79 : Sp := fun vs H Q _ => ∃ (s : Str), vs = [.str s] ∧ s.length ≤ 13000000 ∧ (∀ n : Int, n.natAbs < 10 ^ 13 → s = (toString n : Str) → intText? s = some n → Q (.int n) H) ∧ ((∀ n : Int, 0 ≤ n → n ≤ 1000000000000 → s ≠ (toString n : Str)) → Q .non H)
theorem ok_num79 {f : Addr} {fd : FuncData} {k : Nat} (F : Fun K "number_of" "number_of" s_number_of f fd) (gD : ∃ t, mg "DIGITS" = some (.int 13 t)) (B : Bi mg) : FnOk P w K mg base CX0 (k + 1) f fd ["word"] sp_num79 := by
  obtain ⟨tD, gD⟩ := gD
  refine F.ok sc_number_of (fun vs H Q E h => ?_) (fun cdv A outer s H vs Q E hr h => ?_)
  · obtain ⟨s, rfl, _⟩ := h
    rfl
  · obtain ⟨s, rfl, hs, q1, q2⟩ := h
    have nd := sc_number_of.nd
    refine ⟨_, (pss_cons (ps_set (i := 1) nd rfl (.inl rfl) (pe_removeprefix78 (pv 0) pe_str))
      (pss_cons (ps_if (PW.pt (pw_or (pt_not (pt_val (pe_isascii78 (pv 1)))) (pw_or (pt_not (pt_val (pe_isdigit78 (pv 1)))) (pw_or1 (pt_cmpR op_gt (pe_lenS78 B (pv 1)) (pe_glob (v := .int 13) rfl gD ⟨_, rfl⟩) (nomark _))))))
      (pss_one (ps_ret pe_non))
      pss_nil)
      (pss_cons (ps_set (i := 2) nd rfl (.inl rfl) (pe_callTy call_int_str (by rfl) B.int (by decide +kernel) (pa_cons (pv 0) pa_nil)))
      (pss_one (ps_ret (pe_ifExp (pt_cmpR op_eq (pe_callTy call_str_int (by rfl) B.str (by decide +kernel) (pa_cons (pv 2) pa_nil)) (pv 0) (nomark _)) (pv 2) pe_non)))))), ?_⟩
    have lp : (Txt.removeprefix s (Str.ofString "-")).length ≤ s.length := by
      rw [PySem.StrLaws.removeprefix_eq]
      split
      · simp only [Str.length, List.size_toArray, List.length_take, List.length_drop, Array.length_toList]
        omega
      · exact Nat.le_refl _
    refine ⟨.str s, rfl, ⟨_, rfl⟩, s, _, rfl, rfl, sl_small79 (by omega), ?_⟩
    show _
    refine nx_mk ?_
    obtain ⟨dd, ed⟩ : ∃ dd, Txt.removeprefix s (Str.ofString "-") = dd := ⟨_, rfl⟩
    rw [ed] at lp ⊢
    refine ⟨.str dd, rfl, ⟨_, rfl⟩, dd, rfl, rfl, trivial, ?_⟩
    cases ha : Txt.isascii dd with
    | false =>
      refine ⟨_, rfl, ?_⟩
      refine iteT ?_
      refine q2 fun n h0 h12 e => ?_
      obtain ⟨f1, f2, _⟩ := lv_facts h0 h12 e
      rw [show Txt.removeprefix s (Str.ofString "-") = s from f1] at ed
      rw [← ed, f2] at ha
      cases ha
    | true =>
    refine ⟨_, rfl, ?_⟩
    refine iteF ?_
    refine ⟨.str dd, rfl, ⟨_, rfl⟩, dd, rfl, rfl, trivial, ?_⟩
    cases hd : Txt.isdigit dd with
    | false =>
      refine ⟨_, rfl, ?_⟩
      refine iteT ?_
      refine q2 fun n h0 h12 e => ?_
      obtain ⟨f1, f2, f3, _⟩ := lv_facts h0 h12 e
      rw [show Txt.removeprefix s (Str.ofString "-") = s from f1] at ed
      rw [← ed, f3] at hd
      cases hd
    | true =>
    refine ⟨_, rfl, ?_⟩
    refine iteF ?_
    refine ⟨.str dd, rfl, dd, rfl, sl_small79 (by omega), _, _, rfl, rfl, _, rfl, ?_⟩
    by_cases h13 : dd.length ≤ 13
    rotate_left
    · rw [decide_eq_true (show ((dd.length : Nat) : Int) > 13 by omega)]
      refine iteT ?_
      refine q2 fun n h0 h12 e => ?_
      obtain ⟨f1, f2, f3, f4, _⟩ := lv_facts h0 h12 e
      rw [show Txt.removeprefix s (Str.ofString "-") = s from f1] at ed
      rw [← ed] at h13
      exact h13 f4
    rw [decide_eq_false (show ¬ ((dd.length : Nat) : Int) > 13 by omega)]
    refine iteF ?_
    refine nx_mk ?_
    subst ed
    obtain ⟨i, f5, f6, f7⟩ := int_word ha hd h13
    refine ⟨.str s, rfl, s, i, rfl, f5, by omega, ?_⟩
    refine nx_mk ?_
    refine ⟨.int i, rfl, i, rfl, log_79 f6, .str s, rfl, rfl, _, rfl, ?_⟩
    by_cases es : (toString i : Str) = s
    · rw [es, decide_eq_true rfl]
      exact iteT ⟨.int i, rfl, q1 i f6 es.symm f5⟩
    · rw [decide_eq_false (fun z => es (V.str.inj z))]
      refine iteF ?_
      refine q2 fun n h0 h12 e => ?_
      obtain ⟨_, _, _, _, f8, _⟩ := lv_facts h0 h12 e
      rw [f5] at f8
      obtain rfl := Option.some.inj f8
      exact es e.symm
def sp_cnt79 : Sp := fun vs H Q _ => ∃ (s : Str), vs = [.str s] ∧ s.length ≤ 13000000 ∧ ∀ H', Sm H H' → (∀ n : Nat, cntOf s = some n → Q (.int (n : Int)) H') ∧ (cntOf s = none → Q .non H')
set_option maxHeartbeats 8000000 in
theorem ok_cnt79 {f fN : Addr} {fd fdN : FuncData} {k : Nat} (F : Fun K "count_in" "count_in" s_count_in f fd) (D_number_of : Df K mg "number_of" s_number_of fN fdN ["word"]) (gD : ∃ t, mg "DIGITS" = some (.int 13 t)) (gI : ∃ t, mg "ITEMS" = some (.int 12 t)) (B : Bi mg) : FnOk P w K mg base CX0 (k + 2) f fd ["line"] sp_cnt79 := by
  have G_number_of : FnOk P w K mg base CX0 (k + 1) fN fdN ["word"] sp_num79 := ok_num79 D_number_of.F gD B
  obtain ⟨tI, gI⟩ := gI
  refine F.ok sc_count_in (fun vs H Q E h => ?_) (fun cdv A outer s H vs Q E hr h => ?_)
  · obtain ⟨s, rfl, _⟩ := h
    rfl
  · obtain ⟨s, rfl, slen, q⟩ := h
    have nd := sc_count_in.nd
    refine ⟨_, (pss_cons (ps_set (i := 1) nd rfl (.inl rfl) (pe_split (pv 0) pe_str))
      (pss_cons (ps_if (PW.pt (pw_or (pt_cmpR op_ne (pe_len B (pv 1)) pe_int (nomark _)) (pw_or1 (pt_cmpR op_ne (pe_ix ix_list (pv 1) pe_int (fun _ _ => rfl)) pe_str (nomark _)))))
      (pss_one (ps_ret pe_non))
      pss_nil)
      (pss_cons (ps_set (i := 2) nd rfl (.inl rfl) (pe_cl D_number_of G_number_of hr (pa_cons (pe_ix ix_list (pv 1) pe_int (fun _ _ => rfl)) pa_nil)))
      (pss_one (ps_ret (pe_ifExp (PW.pt (pw_and (pt_cmpR op_notN (pv 2) pe_non (nomark _)) (pw_and1 (pt_chain op_le op_le pe_int (pv 2) (pe_glob (v := .int 12) rfl gI ⟨_, rfl⟩))))) (pv 2) pe_non)))))), ?_⟩
    have v1 : TL.tl (Str.ofString " ") = [32] := by decide +kernel
    have v2 : (Str.ofString " ").cps.all (· < 256) = true := by decide +kernel
    have v3 : ((Str.ofString " ").length == 0) = false := by decide +kernel
    have v4 : TL.tl (Str.ofString "items") = wItems := by decide +kernel
    obtain ⟨m1, m2⟩ := split_ms (s := s) v1 v2
    have mj := join_split1 (s := s) v1 v2
    -- a right line is split in two
    have right : ∀ n : Nat, 1 ≤ n → n ≤ 12 → TL.tl s = cI n → (Txt.split s (Str.ofString " ")).map TL.tl = [wItems, TL.numL n] := fun n h1 h12 hs =>
      split_codes (s := s) v1 v2 (parts := [wItems, TL.numL n]) (by simp) (fun p hp => by
        rcases List.mem_cons.mp hp with rfl | hp
        · exact nf_items.2
        · rw [List.mem_singleton.mp hp]
          exact TL.numL_free (by omega)) (by rw [hs]; rfl)
    refine ⟨.str s, rfl, ⟨_, rfl⟩, s, _, rfl, rfl, v3, sl_small79 (n := s.length + 2) (by omega), fun p hp => ?_⟩
    have s1 : Sm H (upd H p (.lst ((Txt.split s (Str.ofString " ")).map V.str))) := Sm.new hp
    have hp1 : (upd H p (.lst ((Txt.split s (Str.ofString " ")).map V.str))) p = some (.lst ((Txt.split s (Str.ofString " ")).map V.str)) := upd_same
    generalize upd H p (.lst ((Txt.split s (Str.ofString " ")).map V.str)) = H1 at s1 hp1
    generalize Txt.split s (Str.ofString " ") = ws at *
    obtain ⟨qa, qb⟩ := q H1 s1
    refine nx_mk ?_
    refine ⟨.ref p, rfl, p, _, rfl, .inl (SqL.of hp1), rfl, _, rfl, ?_⟩
    by_cases h2 : ws.length = 2
    rotate_left
    · rw [decide_eq_false (show ¬ (V.int (((ws.map V.str).length : Nat) : Int) = V.int 2) by intro z; have z := V.int.inj z; rw [List.length_map] at z; omega)]
      refine iteT ?_
      refine qb (cntOf_none fun n h1 h12 hs => h2 ?_)
      have := congrArg List.length (right n h1 h12 hs)
      rw [List.length_map] at this
      exact this
    obtain ⟨a, b, eab⟩ : ∃ a b, ws = [a, b] := by
      cases ws with
      | nil => cases h2
      | cons a l =>
        cases l with
        | nil => cases h2
        | cons b l =>
          cases l with
          | nil => exact ⟨a, b, rfl⟩
          | cons c l => simp at h2
    subst eab
    refine iteF ?_
    refine ⟨.ref p, rfl, p, _, 0, _, rfl, rfl, SqL.of hp1, atI_nat (j := 0) rfl, rfl, _, rfl, ?_⟩
    by_cases ea : a = Str.ofString "items"
    rotate_left
    · rw [decide_eq_false (fun z => ea (V.str.inj z))]
      refine iteT ?_
      refine qb (cntOf_none fun n h1 h12 hs => ea ?_)
      have := (List.cons.inj (right n h1 h12 hs)).1
      exact TL.ext_tl (by rw [this, v4])
    subst ea
    refine iteNS rfl ?_
    refine nx_mk ?_
    have word : ∀ n : Nat, b = (toString (n : Int) : Str) → TL.tl s = cI n := fun n e => by
      rw [← mj, List.map_cons, List.map_cons, List.map_nil, v4, e, tl_int (by omega)]
      rfl
    have mb := mS_mem (p := b) (ps := [Str.ofString "items", b]) (by simp)
    refine ⟨.ref p, rfl, p, _, 1, _, rfl, rfl, SqL.of hp1, atI_nat (j := 1) rfl, b, rfl, by omega, fun i _ e ei => ?_, fun no => ?_⟩
    · refine nx_mk ?_
      refine ⟨.int i, rfl, rfl, _, rfl, ?_⟩
      refine iteT ?_
      refine ⟨.int i, rfl, _, _, rfl, rfl, decide ((1 : Int) ≤ i), rfl, ?_⟩
      by_cases h1 : (1 : Int) ≤ i
      rotate_left
      · rw [decide_eq_false h1]
        refine ⟨_, rfl, ?_⟩
        refine iteF ?_
        refine qb (cntOf_none fun n h1' h12 hs => h1 ?_)
        have := (List.cons.inj (List.cons.inj (right n h1' h12 hs)).2).1
        have e2 : b = (toString (n : Int) : Str) := TL.ext_tl (by rw [this]; exact (tl_int (i := (n : Int)) (by omega)).symm)
        obtain ⟨_, _, _, _, z, _⟩ := lv_facts (n := (n : Int)) (by omega) (by omega) e2
        rw [ei] at z
        have := Option.some.inj z
        omega
      rw [decide_eq_true h1]
      refine ⟨_, _, rfl, rfl, _, rfl, ?_⟩
      by_cases h12 : i ≤ 12
      · rw [decide_eq_true h12]
        obtain ⟨n, rfl⟩ : ∃ n : Nat, i = (n : Int) := ⟨i.toNat, by omega⟩
        exact iteT ⟨.int (n : Int), rfl, qa n (cntOf_some (by omega) (by omega) (word n e))⟩
      · rw [decide_eq_false h12]
        refine iteF ?_
        refine qb (cntOf_none fun n h1' h12' hs => h12 ?_)
        have := (List.cons.inj (List.cons.inj (right n h1' h12' hs)).2).1
        have e2 : b = (toString (n : Int) : Str) := TL.ext_tl (by rw [this]; exact (tl_int (i := (n : Int)) (by omega)).symm)
        obtain ⟨_, _, _, _, z, _⟩ := lv_facts (n := (n : Int)) (by omega) (by omega) e2
        rw [ei] at z
        have := Option.some.inj z
        omega
    · refine nx_mk ?_
      refine ⟨.non, rfl, rfl, _, rfl, ?_⟩
      refine iteF ?_
      refine qb (cntOf_none fun n h1' h12 hs => ?_)
      have := (List.cons.inj (List.cons.inj (right n h1' h12 hs)).2).1
      exact no (n : Int) (by omega) (by omega) (TL.ext_tl (by rw [this]; exact (tl_int (i := (n : Int)) (by omega)).symm))
end
section
variable {P : Program} {w : World} {K : PySem.W.Frag} {mg : Str → Option Value} {base : Heap}
/-- what number_of makes of a word -/
def Wd79 (s : Str) (v : V) : Prop := (∃ n : Int, v = .int n ∧ s = (toString n : Str) ∧ intText? s = some n) ∨ (v = .non ∧ lvOf s = none)
theorem Wd79.da {ok : Addr → Prop} {H : Hp} {s : Str} {v : V} (h : Wd79 s v) : ∃ d, Da K ok H v d ∧ (isLv d = true → ∃ n, v = .int n ∧ lvOf s = some n) ∧ (isLv d = false → lvOf s = none) := by
  rcases h with ⟨n, rfl, e, en⟩ | ⟨rfl, e⟩
  · refine ⟨.int n, .int n, fun h => ⟨n, rfl, ?_⟩, fun h => ?_⟩
    · have h' : (decide ((1 : Int) ≤ n) && decide (n ≤ 1000000000000)) = true := h
      rw [Bool.and_eq_true] at h'
      rw [e]
      exact lvOf_some ⟨of_decide_eq_true h'.1, of_decide_eq_true h'.2⟩
    · have h' : (decide ((1 : Int) ≤ n) && decide (n ≤ 1000000000000)) = false := h
      refine lvOf_none fun m hm em => ?_
      obtain ⟨_, _, _, _, z⟩ := right_word hm em
      rw [en] at z
      obtain rfl := Option.some.inj z
      rw [decide_eq_true hm.1, decide_eq_true hm.2] at h'
      cases h'
  · exact ⟨.none, .non, fun h => (nomatch h), fun _ => e⟩
def sp_row79 (K : PySem.W.Frag) : Sp := fun vs H Q _ => ∃ (s : Str) (n : Nat), vs = [.str s, .int (n : Int)] ∧ s.length ≤ 13000000 ∧ ∀ (H' : Hp), Sm H H' → (rowOf s n = none → Q .non H') ∧ ∀ (r : List Int) (p : Addr), rowOf s n = some r → SqT K H' p (r.map V.int) → Q (.ref p) H'
set_option maxHeartbeats 8000000 in
theorem ok_row79 {f fN fL fW : Addr} {fd fdN fdL fdW : FuncData} (F : Fun K "row_in" "row_in" s_row_in f fd) (D_number_of : Df K mg "number_of" s_number_of fN fdN ["word"]) (D_is_level : Df K mg "is_level" s_is_level fL fdL ["value"]) (DW : Df K mg "is_whole" s_is_whole fW fdW ["value"]) (gD : ∃ t, mg "DIGITS" = some (.int 13 t)) (gL : ∃ t, mg "LEVEL" = some (.int 1000000000000 t)) (B : Bi mg) : FnOk P w K mg base CX0 3 f fd ["line", "size"] (sp_row79 K) := by
  have G_number_of : FnOk P w K mg base CX0 2 fN fdN ["word"] sp_num79 := ok_num79 D_number_of.F gD B
  have G_is_level : FnOk P w K mg base CX0 2 fL fdL ["value"] (sp_islD K) := ok_islD D_is_level.F DW gL B
  refine F.ok sc_row_in (fun vs H Q E h => ?_) (fun cdv A outer s H vs Q E hr h => ?_)
  · obtain ⟨s, n, rfl, _⟩ := h
    rfl
  · obtain ⟨s, n, rfl, slen, q⟩ := h
    have nd := sc_row_in.nd
    refine ⟨_, (pss_cons (ps_set (i := 2) nd rfl (.inl rfl) (pe_split (pv 0) pe_str))
      (pss_cons (ps_set (i := 3) nd rfl (.inl rfl) (pe_callTy call_tuple_of (by rfl) B.tuple (by decide +kernel) (pa_cons (pe_lc (own := [("word", 4)]) (g := gName 4) (tt := tYes) (te := tCall sp_num79 [] E0 (tCons (tVar 4) tNil)) rfl nd (pi_list (pe_slice sl_list (pv 2) (po_some pe_int) po_none)) (blkOk_by (N := N_row_in) (sc := defScope s_row_in) (by decide +kernel))
            (fun _ _ _ _ _ => pg_name (i := 4) nd rfl (.inl rfl)) (fun _ _ _ _ _ => pts_nil) (fun _ _ _ _ _ => (pe_cl D_number_of G_number_of hr (pa_cons (pv 4) pa_nil)))) pa_nil)))
      (pss_cons (ps_if (PW.pt (pw_or (pt_cmpR op_ne (pe_ix ix_list (pv 2) pe_int (fun _ _ => rfl)) pe_str (nomark _)) (pw_or1 (pt_cmpR op_ne (pe_len B (pv 3)) (pv 1) (nomark _)))))
      (pss_one (ps_ret pe_non))
      pss_nil)
      (pss_one (ps_ret (pe_ifExp (pt_val (pe_callB (cr_all rfl) (by rfl) B.all (by decide +kernel) (pa_cons (pe_lc (own := [("level", 5)]) (g := gName 5) (tt := tYes) (te := tCall (sp_islD K) [] E0 (tCons (tVar 5) tNil)) rfl nd (pi_tup (pv 3)) (blkOk_by (N := N_row_in) (sc := defScope s_row_in) (by decide +kernel))
            (fun _ _ _ _ _ => pg_name (i := 5) nd rfl (.inl rfl)) (fun _ _ _ _ _ => pts_nil) (fun _ _ _ _ _ => (pe_cl D_is_level G_is_level hr (pa_cons (pv 5) pa_nil)))) pa_nil))) (pv 3) pe_non)))))), ?_⟩
    have v1 : TL.tl (Str.ofString " ") = [32] := by decide +kernel
    have v2 : (Str.ofString " ").cps.all (· < 256) = true := by decide +kernel
    have v3 : ((Str.ofString " ").length == 0) = false := by decide +kernel
    obtain ⟨m1, m2⟩ := split_ms (s := s) v1 v2
    have hro : rowOf s n = (match Txt.split s (Str.ofString " ") with
      | [] => none
      | w :: ws => if w = Str.ofString "row" ∧ ws.length = n then lvAll ws else none) := rfl
    refine ⟨.str s, rfl, ⟨_, rfl⟩, s, _, rfl, rfl, v3, sl_small79 (n := s.length + 2) (by omega), fun p hp => ?_⟩
    have s1 : Sm H (upd H p (.lst ((Txt.split s (Str.ofString " ")).map V.str))) := Sm.new hp
    have hp1 : (upd H p (.lst ((Txt.split s (Str.ofString " ")).map V.str))) p = some (.lst ((Txt.split s (Str.ofString " ")).map V.str)) := upd_same
    generalize upd H p (.lst ((Txt.split s (Str.ofString " ")).map V.str)) = H1 at s1 hp1
    generalize Txt.split s (Str.ofString " ") = ws0 at *
    obtain ⟨a, ws, rfl⟩ : ∃ a ws, ws0 = a :: ws := by
      cases ws0 with
      | nil => exact absurd rfl m2
      | cons a ws => exact ⟨a, ws, rfl⟩
    have hro : rowOf s n = if a = Str.ofString "row" ∧ ws.length = n then lvAll ws else none := hro
    have m1 : mS (a :: ws) ≤ s.length + 1 := m1
    rw [mS_cons] at m1
    have wlen := mS_len ws
    refine nx_mk ?_
    refine ⟨.ref p, rfl, _, rfl, p, _, rfl, SqL.of hp1, fun p2 hp2 => ?_⟩
    rw [show (1 : Int) = ((1 : Nat) : Int) from rfl, cut_from]
    have s2 : Sm H1 (upd H1 p2 (.lst (((a :: ws).map V.str).drop 1))) := Sm.new hp2
    have hp22 : (upd H1 p2 (.lst (((a :: ws).map V.str).drop 1))) p2 = some (.lst (ws.map V.str)) := upd_same
    generalize upd H1 p2 (.lst (((a :: ws).map V.str).drop 1)) = H2 at s2 hp22
    refine ⟨p2, rfl, ⟨_, SqL.of hp22⟩, fun D hD => lc_list (xs := ws.map V.str) (fun i Hy => ∃ us : List V, Hy D = some (.lst us) ∧ us.length = i ∧ (∀ k w u, ws[k]? = some w → us[k]? = some u → Wd79 w u) ∧ Sm H2 Hy) ⟨[], upd_same, rfl, (by intro k w u _ e; rw [List.getElem?_nil] at e; cases e), Sm.new hD⟩ (fun i Hy _ hQ => SqL.of (hQ.choose_spec.2.2.2 _ _ hp22)) (fun i y Hy hy hQ => ?_) (fun Hy hQ => ?_)⟩
    · obtain ⟨us, g1, gl, gw, sy⟩ := hQ
      rw [List.getElem?_map] at hy
      obtain ⟨w, hw, rfl⟩ := Option.map_eq_some_iff.mp hy
      have hi := (List.getElem?_eq_some_iff.mp hw).1
      have mw := mS_mem (List.mem_of_getElem? hw)
      have add : ∀ u, Wd79 w u → ∃ zs : List V, (upd Hy D (.lst (us ++ [u]))) D = some (.lst zs) ∧ zs.length = i + 1 ∧ (∀ k w u, ws[k]? = some w → zs[k]? = some u → Wd79 w u) ∧ Sm H2 (upd Hy D (.lst (us ++ [u]))) := fun u hu => by
        refine ⟨_, upd_same, by rw [List.length_append, gl]; rfl, fun k w' u' h1 h2 => ?_, fun cc o e => by rw [upd_ne (ne_of_none e hD)]; exact sy cc o e⟩
        rcases Nat.lt_or_ge k us.length with z | z
        · rw [List.getElem?_append_left z] at h2
          exact gw k w' u' h1 h2
        · rw [List.getElem?_append_right z] at h2
          have y1 := (List.getElem?_eq_some_iff.mp h2).1
          have e0 : k - us.length = 0 := by simp at y1; omega
          rw [e0] at h2
          obtain rfl := Option.some.inj (show some u = some u' from h2)
          rw [show k = i by omega, hw] at h1
          obtain rfl := Option.some.inj h1
          exact hu
      refine ⟨rfl, .str w, rfl, w, rfl, by omega, fun m hm e em => ?_, fun no => ?_⟩
      · exact ⟨us, g1, sl_small79 (n := us.length + 1) (by omega), add _ (.inl ⟨m, rfl, e, em⟩)⟩
      · exact ⟨us, g1, sl_small79 (n := us.length + 1) (by omega), add _ (.inr ⟨rfl, lvOf_none fun m hm => no m (by have := hm.1; omega) hm.2⟩)⟩
    obtain ⟨us, g1, gl, gw, sy⟩ := hQ
    rw [List.length_map] at gl
    refine ⟨D, _, rfl, .inl ⟨SqL.of g1, fun pt hpt => ?_⟩⟩
    have s3 : Sm Hy (upd Hy pt (.tup us)) := Sm.new hpt
    have hpt3 : SqT K (upd Hy pt (.tup us)) pt us := SqT.of upd_same
    generalize upd Hy pt (.tup us) = H3 at s3 hpt3
    refine nx_mk ?_
    have s13 := s2.trans (sy.trans s3)
    refine ⟨.ref p, rfl, p, _, 0, _, rfl, rfl, SqL.of (s13 _ _ hp1), atI_nat (j := 0) rfl, rfl, _, rfl, ?_⟩
    by_cases ea : a = Str.ofString "row"
    rotate_left
    · rw [decide_eq_false (fun z => ea (V.str.inj z))]
      refine iteT ?_
      refine (q _ (s1.trans s13)).1 ?_
      rw [hro, if_neg fun z => ea z.1]
    subst ea
    refine iteNS rfl ?_
    refine ⟨.ref pt, rfl, pt, _, rfl, .inr hpt3, .int (n : Int), rfl, rfl, _, rfl, ?_⟩
    by_cases en : ws.length = n
    rotate_left
    · rw [decide_eq_false (fun z => en (by have z := V.int.inj z; omega))]
      refine iteT ?_
      refine (q _ (s1.trans s13)).1 ?_
      rw [hro, if_neg fun z => en z.2]
    rw [if_pos ⟨rfl, en⟩] at hro
    refine iteNS (by rw [gl, en]) ?_
    refine nx_mk ?_
    refine ⟨.ref pt, rfl, pt, rfl, ⟨_, hpt3⟩, fun D2 hD2 => lc_tup (xs := us) (fun i Hz => ∃ bs : List Bool, Hz D2 = some (.lst (bs.map V.bl)) ∧ bs.length = i ∧ (∀ k w u b, ws[k]? = some w → us[k]? = some u → bs[k]? = some b → (b = true → ∃ n, u = V.int n ∧ lvOf w = some n) ∧ (b = false → lvOf w = none)) ∧ Sm H3 Hz) ⟨[], upd_same, rfl, (by intro k w u b _ _ e; rw [List.getElem?_nil] at e; cases e), Sm.new hD2⟩ (fun i Hz _ hQ => hQ.choose_spec.2.2.2.sqT hpt3) (fun i y Hz hy hQ => ?_) (fun Hz hQ => ?_)⟩
    · obtain ⟨bs, k1, kl, kw, sz⟩ := hQ
      have hi := (List.getElem?_eq_some_iff.mp hy).1
      obtain ⟨w, hw⟩ : ∃ w, ws[i]? = some w := ⟨_, List.getElem?_eq_getElem (by omega)⟩
      obtain ⟨d, hd, d1, d2⟩ := (gw i w y hw hy).da (K := K) (ok := allOk) (H := Hz)
      refine ⟨rfl, y, rfl, allOk, y, d, rfl, hd, ?_⟩
      refine ⟨_, k1, sl_small79 (n := (bs.map V.bl).length + 1) (by rw [List.length_map]; omega), bs ++ [isLv d], by rw [upd_same, List.map_append]; rfl, by rw [List.length_append, kl]; rfl, fun k w' u' b h1 h2 h3 => ?_, fun cc o e => by rw [upd_ne (ne_of_none e hD2)]; exact sz cc o e⟩
      rcases Nat.lt_or_ge k bs.length with z | z
      · rw [List.getElem?_append_left z] at h3
        exact kw k w' u' b h1 h2 h3
      · rw [List.getElem?_append_right z] at h3
        have y1 := (List.getElem?_eq_some_iff.mp h3).1
        have e0 : k - bs.length = 0 := by simp at y1; omega
        rw [e0] at h3
        obtain rfl := Option.some.inj (show some (isLv d) = some b from h3)
        rw [show k = i by omega, hw] at h1
        rw [show k = i by omega, hy] at h2
        obtain rfl := Option.some.inj h1
        obtain rfl := Option.some.inj h2
        exact ⟨d1, d2⟩
    obtain ⟨bs, k1, kl, kw, sz⟩ := hQ
    refine ⟨D2, _, rfl, SqL.of k1, _, rfl, ?_⟩
    cases hall : bs.all _root_.id with
    | true =>
      have all' := List.all_eq_true.mp hall
      have er : ∀ (ws : List Str) (us : List V) (bs : List Bool), us.length = ws.length → bs.length = us.length → (∀ b ∈ bs, b = true) → (∀ k w u b, ws[k]? = some w → us[k]? = some u → bs[k]? = some b → (b = true → ∃ n, u = V.int n ∧ lvOf w = some n) ∧ (b = false → lvOf w = none)) → ∃ r : List Int, us = r.map V.int ∧ lvAll ws = some r := fun ws => by
        induction ws with
        | nil =>
          intro us bs h1 h2 h3 h4
          have : us = [] := List.eq_nil_of_length_eq_zero h1
          exact ⟨[], this, rfl⟩
        | cons w ws ih =>
          intro us bs h1 h2 h3 h4
          cases us with
          | nil => cases h1
          | cons u us =>
            cases bs with
            | nil => cases h2
            | cons b bs =>
              obtain ⟨r, e1, e2⟩ := ih us bs (by simpa using h1) (by simpa using h2) (fun b hb => h3 b (List.mem_cons_of_mem _ hb)) fun k w u b a1 a2 a3 => h4 (k + 1) w u b a1 a2 a3
              obtain ⟨n, en, ew⟩ := (h4 0 w u b rfl rfl rfl).1 (h3 b List.mem_cons_self)
              refine ⟨n :: r, by rw [en, e1]; rfl, ?_⟩
              rw [lvAll_iff, List.map_cons, List.map_cons, ew, lvAll_iff.mp e2]
      obtain ⟨r, e1, e2⟩ := er ws us bs gl kl all' kw
      refine iteT ?_
      refine ⟨.ref pt, rfl, ?_⟩
      refine (q _ (s1.trans (s13.trans sz))).2 r pt (by rw [hro, e2]) ?_
      rw [← e1]
      exact sz.sqT hpt3
    | false =>
      refine iteF ?_
      refine (q _ (s1.trans (s13.trans sz))).1 ?_
      rw [hro]
      obtain ⟨b, hb, hf⟩ := List.all_eq_false.mp hall
      obtain ⟨k, hk⟩ := List.getElem?_of_mem hb
      have lk := (List.getElem?_eq_some_iff.mp hk).1
      obtain ⟨w, hw⟩ : ∃ w, ws[k]? = some w := ⟨_, List.getElem?_eq_getElem (by omega)⟩
      obtain ⟨u, hu⟩ : ∃ u, us[k]? = some u := ⟨_, List.getElem?_eq_getElem (by omega)⟩
      exact lvAll_none (List.mem_of_getElem? hw) ((kw k w u b hw hu hk).2 (by simpa using hf))
end
section
variable {P : Program} {w : World} {K : PySem.W.Frag} {mg : Str → Option Value} {base : Heap}
/-! ### the program: the lines of any text -/
theorem goR_step {c i : Nat} {l : Str} {ls : List Str} {rows : List (List Int)} : goR c i (l :: ls) rows = if c ≤ i then .inr i else match rowOf l i with
    | none => .inr i
    | some r => goR c (i + 1) ls (rows ++ [r]) := rfl
def sp_plin79 (K : PySem.W.Frag) (C : Addr) : Sp := fun vs H Q E => ∃ (lo : Addr) (ls : List Str), vs = [.ref lo] ∧ H lo = some (.lst (ls.map V.str)) ∧ ls ≠ [] ∧ mS ls ≤ 13000000 ∧
  (∀ (k : Nat) (H' : Hp) (d : Addr), plOf ls = .inr k → Sm H H' → H' d = none → E (.ref C) (some d) (upd H' d (.xd [(("place" : Str), .int (k : Int))]))) ∧
  ∀ (c : Nat) (rows : List (List Int)) (H' : Hp) (p q' : Addr) (xs : List V), plOf ls = .inl (c, rows) → Sm H H' → SqT K H' p [.int (c : Int), .ref q'] → H' q' = some (.lst xs) → Rows K H' xs rows → Q (.ref p) H'
set_option maxHeartbeats 8000000 in
theorem ok_plin79 {C fE f fC fR fN fL fW : Addr} {fd fdC fdR fdN fdL fdW : FuncData} (TE : PySem.Err_ParseError.Txt K mg C fE) (F : Fun K "parse_lines" "parse_lines" s_parse_lines f fd) (D_count_in : Df K mg "count_in" s_count_in fC fdC ["line"]) (D_row_in : Df K mg "row_in" s_row_in fR fdR ["line", "size"]) (D_number_of : Df K mg "number_of" s_number_of fN fdN ["word"]) (D_is_level : Df K mg "is_level" s_is_level fL fdL ["value"]) (DW : Df K mg "is_whole" s_is_whole fW fdW ["value"])
    (gD : ∃ t, mg "DIGITS" = some (.int 13 t)) (gI : ∃ t, mg "ITEMS" = some (.int 12 t)) (gL : ∃ t, mg "LEVEL" = some (.int 1000000000000 t)) (B : Bi mg) : FnOk P w K mg base (L2.CX P w) 4 f fd ["lines"] (sp_plin79 K C) := by
  have G_count_in : FnOk P w K mg base CX0 3 fC fdC ["line"] sp_cnt79 := ok_cnt79 D_count_in.F D_number_of gD gI B
  have G_row_in : FnOk P w K mg base CX0 3 fR fdR ["line", "size"] (sp_row79 K) := ok_row79 D_row_in.F D_number_of D_is_level DW gD gL B
  refine F.okX sc_parse_lines (fun vs H Q E h => ?_) (fun cdv A outer s H vs Q E hr h => ?_)
  · obtain ⟨lo, ls, rfl, _⟩ := h
    rfl
  · obtain ⟨lo, ls, rfl, hlo, hne, hms, qe, q⟩ := h
    have nd := sc_parse_lines.nd
    refine ⟨_, (pss_cons (ps_set (i := 1) nd rfl (.inl rfl) (pe_cl D_count_in G_count_in hr (pa_cons (pe_ix ix_list (pv 0) pe_int (fun _ _ => rfl)) pa_nil)))
      (pss_cons (ps_if (pt_cmpR op_isN (pv 1) pe_non (nomark _))
      (pss_one (ps_raiseParseError rfl TE hr (takes_of rfl rfl rfl rfl) (by exact (pa_cons pe_int pa_nil))))
      pss_nil)
      (pss_cons (ps_set (i := 2) nd rfl (.inl rfl) (pe_lst (pa_cons (pe_tup pa_nil) pa_nil)))
      (pss_cons (ps_for (passes_of rfl) rfl (pi_enum1 rfl B.enumerate (pa_cons (pe_slice sl_list (pv 0) (po_some pe_int) po_none) pa_nil) (pk_cons pe_int pk_nil)) (pg_tup rfl (pgs_cons (pg_name (i := 3) nd rfl (.inl rfl)) (pgs_cons (pg_name (i := 4) nd rfl (.inl rfl)) pgs_nil)))
      (pss_cons (ps_set (i := 5) nd rfl (.inl rfl) (pe_cl D_row_in G_row_in hr (pa_cons (pv 4) (pa_cons (pv 3) pa_nil))))
      (pss_cons (ps_if (PW.pt (pw_or (pt_cmpR op_ge (pv 3) (pv 1) (nomark _)) (pw_or1 (pt_cmpR op_isN (pv 5) pe_non (nomark _)))))
      (pss_one (ps_raiseParseError rfl TE hr (takes_of rfl rfl rfl rfl) (by exact (pa_cons (pv 3) pa_nil))))
      pss_nil)
      (pss_one (ps_expr (pe_bm PySem.F.plainAttrs_list PySem.F.slot_list_append PySem.F.type_list_append mt_append (pv 2) (pa_cons (pv 5) pa_nil)))))))
      (pss_one (ps_ret (pe_tup (pa_cons (pv 1) (pa_cons (pv 2) pa_nil))))))))), ?_⟩
    obtain ⟨l0, ls', rfl⟩ : ∃ l0 ls', ls = l0 :: ls' := by
      cases ls with
      | nil => exact absurd rfl hne
      | cons a b => exact ⟨a, b, rfl⟩
    rw [mS_cons] at hms
    have wlen := mS_len ls'
    have hpl : plOf (l0 :: ls') = match cntOf l0 with
      | none => .inr 0
      | some c => match goR c 1 ls' [[]] with
        | .inr k => .inr k
        | .inl rows => .inl (c, rows) := rfl
    refine ⟨.ref lo, rfl, lo, _, 0, _, rfl, rfl, SqL.of hlo, atI_nat (j := 0) rfl, l0, rfl, by omega, fun H1 s1 => ?_⟩
    cases hc : cntOf l0 with
    | none =>
      rw [hc] at hpl
      refine ⟨fun n e => (nomatch e), fun _ => ?_⟩
      refine nx_mk ?_
      refine ⟨.non, rfl, rfl, _, rfl, ?_⟩
      refine iteT ?_
      exact ⟨_, rfl, fun d hd => qe 0 H1 d hpl s1 hd⟩
    | some c =>
    rw [hc] at hpl
    dsimp only at hpl
    refine ⟨fun n e => ?_, fun e => nomatch e⟩
    obtain rfl := Option.some.inj e
    obtain ⟨⟨c1, c12⟩, _⟩ := cntOf_spec hc
    refine nx_mk ?_
    refine ⟨.int (c : Int), rfl, rfl, _, rfl, ?_⟩
    refine iteF ?_
    show _
    refine nx_mk ?_
    refine ⟨Nat.zero_le _, fun e0 he0 => ⟨small1000 (Nat.le_of_ble_eq_true rfl), fun rw he1 => ?_⟩⟩
    have sE := Sm.new (o := .tup []) he0
    have qe0 : SqT K (upd H1 e0 (.tup [])) e0 [] := SqT.of upd_same
    generalize upd H1 e0 (.tup []) = H2 at sE he1 qe0
    have s3 : Sm H2 (upd H2 rw (.lst [.ref e0])) := Sm.new he1
    have h12' := s1.trans sE
    have hrwH : H rw = none := Sm.free h12' he1
    have hrw3 : (upd H2 rw (.lst [.ref e0])) rw = some (.lst [.ref e0]) := upd_same
    have q3 := s3.sqT qe0
    have s03 := h12'.trans s3
    generalize upd H2 rw (.lst [.ref e0]) = H3 at s3 hrw3 q3 s03
    refine nx_mk ?_
    refine ⟨.ref lo, rfl, _, rfl, lo, _, rfl, SqL.of (s03 _ _ hlo), fun p2 hp2 => ?_⟩
    rw [show (1 : Int) = ((1 : Nat) : Int) from rfl, cut_from]
    have s4 : Sm H3 (upd H3 p2 (.lst (((l0 :: ls').map V.str).drop 1))) := Sm.new hp2
    have hp24 : (upd H3 p2 (.lst (((l0 :: ls').map V.str).drop 1))) p2 = some (.lst (ls'.map V.str)) := upd_same
    have nrp : rw ≠ p2 := ne_of_none hrw3 hp2
    have hrw4 := s4 _ _ hrw3
    have q4 := s4.sqT q3
    have s04 := s03.trans s4
    generalize upd H3 p2 (.lst (((l0 :: ls').map V.str).drop 1)) = H4 at s4 hp24 hrw4 q4 s04
    refine ⟨p2, _, rfl, rfl, SqL.of hp24, for_enum1 (xs := ls'.map V.str) (fun i σ Hy => ∃ x3 x4 x5 xs rows, σ = [some (.ref lo), some (.int (c : Int)), some (.ref rw), x3, x4, x5] ∧ Hy rw = some (.lst xs) ∧ Rows K Hy xs rows ∧ rows.length = i + 1 ∧ goR c 1 ls' [[]] = goR c (i + 1) (ls'.drop i) rows ∧ Hy p2 = some (.lst (ls'.map V.str)) ∧ Sm H Hy)
      ⟨none, none, none, [.ref e0], [[]], rfl, hrw4, Rows.nil.snoc ⟨e0, rfl, q4⟩, rfl, rfl, hp24, s04⟩ (fun i σ Hy hI => ?_) (fun i y T σ Hy hy hI hT => ?_) (fun σ Hy hI => ?_)⟩
    · obtain ⟨_, _, _, _, _, _, _, _, _, _, h, _⟩ := hI
      exact SqL.of h
    · obtain ⟨x3, x4, x5, xs, rows, rfl, hx, hR, hrl, hg, hp, sy⟩ := hI
      rw [List.getElem?_map] at hy
      obtain ⟨l, hl, rfl⟩ := Option.map_eq_some_iff.mp hy
      have hi := (List.getElem?_eq_some_iff.mp hl).1
      have ed : ls'.drop i = l :: ls'.drop (i + 1) := by
        rw [List.drop_eq_getElem_cons hi, (List.getElem?_eq_some_iff.mp hl).2]
      rw [ed, goR_step] at hg
      have ml := mS_mem (List.mem_of_getElem? hl)
      have sT : Sm Hy (upd Hy T (.tup [.int ((i + 1 : Nat) : Int), .str l])) := Sm.new hT
      refine ⟨T, _, rfl, SqT.of upd_same, rfl, _, _, rfl, _, _, rfl, rfl, ?_⟩
      generalize upd Hy T (.tup [.int ((i + 1 : Nat) : Int), .str l]) = Hz at sT
      have bad : ∀ (H5 : Hp) (v5 : V), Sm Hz H5 → goR c 1 ls' [[]] = .inr (i + 1) → ∀ d, H5 d = none → E (.ref C) (some d) (upd H5 d (.xd [(("place" : Str), .int ((i + 1 : Nat) : Int))])) := fun H5 v5 s5 e d hd => by
        refine qe (i + 1) H5 d ?_ (sy.trans (sT.trans s5)) hd
        rw [hpl, e]
      refine ⟨.str l, rfl, .int ((i + 1 : Nat) : Int), rfl, l, i + 1, rfl, by omega, fun H5 s5 => ⟨fun hn => ?_, fun r p hr' hp5 => ?_⟩⟩
      · refine nx_mk ?_
        refine ⟨.int ((i + 1 : Nat) : Int), rfl, .int (c : Int), rfl, _, _, rfl, rfl, _, rfl, ?_⟩
        rw [hn] at hg
        by_cases hci : c ≤ i + 1
        · rw [if_pos hci] at hg
          rw [decide_eq_true (show ((i + 1 : Nat) : Int) ≥ (c : Int) by omega)]
          refine iteT ?_
          exact ⟨_, rfl, _, rfl, bad H5 .non s5 hg⟩
        · rw [if_neg hci] at hg
          rw [decide_eq_false (show ¬ ((i + 1 : Nat) : Int) ≥ (c : Int) by omega)]
          refine iteF ?_
          refine ⟨.non, rfl, rfl, _, rfl, ?_⟩
          refine iteT ?_
          exact ⟨_, rfl, _, rfl, bad H5 .non s5 hg⟩
      · refine nx_mk ?_
        refine ⟨.int ((i + 1 : Nat) : Int), rfl, .int (c : Int), rfl, _, _, rfl, rfl, _, rfl, ?_⟩
        rw [hr'] at hg
        by_cases hci : c ≤ i + 1
        · rw [if_pos hci] at hg
          rw [decide_eq_true (show ((i + 1 : Nat) : Int) ≥ (c : Int) by omega)]
          refine iteT ?_
          exact ⟨_, rfl, _, rfl, bad H5 .non s5 hg⟩
        · rw [if_neg hci] at hg
          rw [decide_eq_false (show ¬ ((i + 1 : Nat) : Int) ≥ (c : Int) by omega)]
          refine iteF ?_
          refine ⟨.ref p, rfl, rfl, _, rfl, ?_⟩
          refine iteF ?_
          show _
          have s6 := sT.trans s5
          have hx6 := s6 _ _ hx
          refine nx_mk ?_
          refine ⟨.ref rw, rfl, .inl ⟨rfl, _, SqL.of hx6⟩, .ref p, rfl, rw, xs, _, rfl, rfl, hx6, ?_, ?_⟩
          · have := hR.1
            exact sl_small79 (n := xs.length + 1) (by omega)
          refine ⟨_, _, _, xs ++ [.ref p], rows ++ [r], rfl, upd_same, ((hR.same s6).snoc ⟨p, rfl, hp5⟩).upd hx6, by rw [List.length_append, hrl]; rfl, hg, by rw [upd_ne nrp.symm]; exact s6 _ _ hp, fun c o e => by rw [upd_ne (ne_of_none e hrwH)]; exact (sy.trans s6) c o e⟩
    · obtain ⟨x3, x4, x5, xs, rows, rfl, hx, hR, hrl, hg, hp, sy⟩ := hI
      rw [List.length_map, List.drop_length] at hg
      have hg : goR c 1 ls' [[]] = .inl rows := hg
      show _
      refine ⟨.int (c : Int), rfl, .ref rw, rfl, small1000 (Nat.le_of_ble_eq_true rfl), fun pp hpp => ?_⟩
      have s9 := Sm.new (o := .tup [.int (c : Int), .ref rw]) hpp
      exact q c rows _ pp rw xs (by rw [hpl, hg]) (sy.trans s9) (SqT.of upd_same) (s9 _ _ hx) (hR.same s9)
end
section
variable {X : Cx} {x : Str} {st : Stmt} {f : Addr} {fd : FuncData} {ps : List Str} {k : Nat} {sp : Sp} {e : Expr} {es : List Expr} {t : TA} {p pos : Pos} {W : WX}
theorem pe_clX (D : Df X.K X.mg x st f fd ps) (G : FnOk X.prog X.w X.K X.mg X.base (L2.CX X.prog X.w) k f fd ps sp) (hr : Room k X.A) (tk : Takes X W) (ha : PA X (e :: es) t) (hg : Gl X x := by rfl) (hdb : (x == ("__debug__" : Str)) = false := by decide)
    (he : starEach (e :: es) X.env = (false, eval e X.env) :: starEach es X.env := by rfl) (hpl : (backTo pos (starEach es X.env)).any (·.1) = false := by rfl) : PE X (.Call (.Name x p) (e :: es) [] pos) (tCallS sp (WE W) t) :=
  pe_callS G hr hg D.g D.F.kp D.b (fun σ => passAt tk σ) ha hdb he hpl
end
section
variable {P : Program} {w : World} {K : PySem.W.Frag} {mg : Str → Option Value} {base : Heap}
/-! ### the program: the table of any value -/
def isS79 : PyData → Bool
  | .str _ => true
  | _ => false
theorem kt_str79 (d : PyData) : kitB (tyN d) "str" = some (isS79 d) := by
  cases d
  · exact (by decide +kernel : kitB "NoneType" "str" = some false)
  · exact (by decide +kernel : kitB "bool" "str" = some false)
  · exact (by decide +kernel : kitB "int" "str" = some false)
  · exact (by decide +kernel : kitB "str" "str" = some true)
  · exact (by decide +kernel : kitB "list" "str" = some false)
  · exact (by decide +kernel : kitB "tuple" "str" = some false)
  · exact (by decide +kernel : kitB "dict" "str" = some false)
/-- what a text or another value says -/
noncomputable def sayD : PyData → Sum (List (List Int)) (Option Nat)
  | .str s => match out79 s with | .inl t => .inl t | .inr k => .inr (some k)
  | _ => .inr none
def placeV : Option Nat → V
  | some k => .int (k : Int)
  | none => .non
def sp_ptab79 (K : PySem.W.Frag) (C : Addr) : Sp := fun vs H Q E => ∃ (ok : Addr → Prop) (v : V) (x : PyData), vs = [v] ∧ Da K ok H v x ∧ (∀ s, x = .str s → s.length ≤ 12000000) ∧
  (∀ (k : Option Nat) (H' : Hp) (d : Addr), sayD x = .inr k → Sm H H' → H' d = none → E (.ref C) (some d) (upd H' d (.xd [(("place" : Str), placeV k)]))) ∧
  ∀ (t : List (List Int)) (H' : Hp) (u : V), sayD x = .inl t → Sm H H' → TT K H' u t → Q u H'
set_option maxHeartbeats 8000000 in
theorem ok_ptab79 {C fE f fP fC fR fN fL fW : Addr} {fd fdP fdC fdR fdN fdL fdW : FuncData} (TE : PySem.Err_ParseError.Txt K mg C fE) (F : Fun K "parse_table" "parse_table" s_parse_table f fd) (D_parse_lines : Df K mg "parse_lines" s_parse_lines fP fdP ["lines"]) (D_count_in : Df K mg "count_in" s_count_in fC fdC ["line"]) (D_row_in : Df K mg "row_in" s_row_in fR fdR ["line", "size"]) (D_number_of : Df K mg "number_of" s_number_of fN fdN ["word"]) (D_is_level : Df K mg "is_level" s_is_level fL fdL ["value"]) (DW : Df K mg "is_whole" s_is_whole fW fdW ["value"])
    (gD : ∃ t, mg "DIGITS" = some (.int 13 t)) (gI : ∃ t, mg "ITEMS" = some (.int 12 t)) (gL : ∃ t, mg "LEVEL" = some (.int 1000000000000 t)) (B : Bi mg) : FnOk P w K mg base (L2.CX P w) 5 f fd ["value"] (sp_ptab79 K C) := by
  have G_parse_lines : FnOk P w K mg base (L2.CX P w) 4 fP fdP ["lines"] (sp_plin79 K C) := ok_plin79 TE D_parse_lines.F D_count_in D_row_in D_number_of D_is_level DW gD gI gL B
  refine F.okX sc_parse_table (fun vs H Q E h => ?_) (fun cdv A outer s0 H vs Q E hr h => ?_)
  · obtain ⟨ok, v, x, rfl, _⟩ := h
    rfl
  · obtain ⟨ok, v, x, rfl, hd, hlen, qe, q⟩ := h
    have nd := sc_parse_table.nd
    refine ⟨_, (pss_cons (ps_if (pt_not (pt_val (pe_callB call_isi (by rfl) B.isinstance (by decide +kernel) (pa_cons (pv 0) (pa_cons (pe_bltn (by rfl) B.str (by decide +kernel) (v := .ty "str") rfl) pa_nil)))))
      (pss_one (ps_raiseParseError rfl TE hr (takes_of rfl rfl rfl rfl) (by exact (pa_cons pe_non pa_nil))))
      pss_nil)
      (pss_cons (ps_set (i := 1) nd rfl (.inl rfl) (pe_split (pv 0) pe_str))
      (pss_cons (ps_set (i := 2) nd rfl (.inl rfl) (pe_bm0 PySem.F.plainAttrs_list PySem.F.slot_list_pop PySem.F.type_list_pop mt_pop (pv 1)))
      (pss_cons (ps_if (pt_truth (pv 2) (fun _ => rfl))
      (pss_one (ps_expr (pe_bm PySem.F.plainAttrs_list PySem.F.slot_list_append PySem.F.type_list_append mt_append (pv 1) (pa_cons (pv 2) pa_nil))))
      pss_nil)
      (pss_cons (ps_if (pt_not (pt_truth (pv 1) (fun _ => rfl)))
      (pss_one (ps_raiseParseError rfl TE hr (takes_of rfl rfl rfl rfl) (by exact (pa_cons pe_int pa_nil))))
      pss_nil)
      (pss_cons (ps_asg (by exact (pe_clX D_parse_lines G_parse_lines hr (takes_of rfl rfl rfl rfl) (by exact (pa_cons (pv 1) pa_nil)))) (pg_tup rfl (pgs_cons (pg_name (i := 3) nd rfl (.inl rfl)) (pgs_cons (pg_name (i := 4) nd rfl (.inl rfl)) pgs_nil))))
      (pss_cons (ps_if (PW.pt (pw_or (pt_truth (pv 2) (fun _ => rfl)) (pw_or1 (pt_cmpR op_lt (pe_len B (pv 4)) (pv 3) (nomark _)))))
      (pss_one (ps_raiseParseError rfl TE hr (takes_of rfl rfl rfl rfl) (by exact (pa_cons (pe_len B (pv 1)) pa_nil))))
      pss_nil)
      (pss_one (ps_ret (pe_callTy call_tuple_of (by rfl) B.tuple (by decide +kernel) (pa_cons (pv 4) pa_nil))))))))))), ?_⟩
    refine ⟨v, rfl, v, .ty "str", .type (tyN x), _, _, rfl, .ty _, hd.ty, kit_ty (kt_str79 x), _, rfl, ?_⟩
    cases x with
    | str s =>
      refine iteF ?_
      show _
      cases hd
      have slen := hlen s rfl
      have v1 : TL.tl (Str.ofString "\n") = [10] := by decide +kernel
      have v2 : (Str.ofString "\n").cps.all (· < 256) = true := by decide +kernel
      have v3 : ((Str.ofString "\n").length == 0) = false := by decide +kernel
      obtain ⟨m1, m2⟩ := split_ms (s := s) v1 v2
      obtain ⟨ls, z, eS⟩ : ∃ ls z, Txt.split s (Str.ofString "\n") = ls ++ [z] := by
        rcases List.eq_nil_or_concat (Txt.split s (Str.ofString "\n")) with e | ⟨ls, z, e⟩
        · exact absurd e m2
        · exact ⟨ls, z, by rw [e, List.concat_eq_append]⟩
      obtain ⟨l1, l2⟩ := lines_snoc eS
      rw [eS, mS_app, mS_cons, mS_nil] at m1
      have wlen := mS_len ls
      have hsay : sayD (.str s) = (match sayOf (linesOf s) (restOf s) with | .inl t => .inl t | .inr k => .inr (some k)) := rfl
      refine nx_mk ?_
      refine ⟨.str s, rfl, ⟨_, rfl⟩, s, _, rfl, rfl, v3, sl_small79 (n := s.length + 2) (by omega), fun p hp => ?_⟩
      have s1 : Sm H (upd H p (.lst ((Txt.split s (Str.ofString "\n")).map V.str))) := Sm.new hp
      have hp1 : (upd H p (.lst ((Txt.split s (Str.ofString "\n")).map V.str))) p = some (.lst (ls.map V.str ++ [.str z])) := by rw [eS, List.map_append]; exact upd_same
      generalize upd H p (.lst ((Txt.split s (Str.ofString "\n")).map V.str)) = H1 at s1 hp1
      refine nx_mk ?_
      refine ⟨.ref p, rfl, .inl ⟨rfl, _, SqL.of hp1⟩, p, _, .str z, rfl, rfl, hp1, by rw [List.length_append]; show (ls.map V.str ++ [.str z])[(ls.map V.str).length + 1 - 1]? = _; rw [Nat.add_sub_cancel, List.getElem?_append_right (Nat.le_refl _), Nat.sub_self]; rfl, ?_⟩
      rw [List.dropLast_concat]
      have s2 : Sm H (upd H1 p (.lst (ls.map V.str))) := fun c o e => by rw [upd_ne (ne_of_none e hp)]; exact s1 c o e
      have hp2 : (upd H1 p (.lst (ls.map V.str))) p = some (.lst (ls.map V.str)) := upd_same
      generalize upd H1 p (.lst (ls.map V.str)) = H2 at s2 hp2
      refine nx_mk ?_
      obtain ⟨L, rest, eL, eR, hz, hpre⟩ : ∃ L rest, linesOf s = L ∧ restOf s = rest ∧ rest = (!decide (z.length = 0)) ∧ ((z.length = 0 ∧ L = ls) ∨ (z.length ≠ 0 ∧ L = ls ++ [z])) := by
        by_cases hz : z.length = 0
        · exact ⟨_, _, (l1 hz).1, (l1 hz).2, by rw [decide_eq_true hz]; rfl, .inl ⟨hz, rfl⟩⟩
        · exact ⟨_, _, (l2 hz).1, (l2 hz).2, by rw [decide_eq_false hz]; rfl, .inr ⟨hz, rfl⟩⟩
      rw [eL, eR] at hsay
      have mL : mS L ≤ 12000001 := by
        rcases hpre with ⟨_, rfl⟩ | ⟨_, rfl⟩
        · omega
        · rw [mS_app, mS_cons, mS_nil]; omega
      have tz : ((z.length : Int) != 0) = rest := by
        rw [hz]
        by_cases e : z.length = 0
        · rw [e]; rfl
        · rw [decide_eq_false e]
          exact bne_iff_ne.mpr (by omega)
      refine seq_share (A := tIfS _ _ _) (fun σ' Hy => σ' = [some (.str s), some (.ref p), some (.str z), none, none] ∧ Sm H Hy ∧ Hy p = some (.lst (L.map V.str))) (fun σ' Hy hF => ?rest) (fun kk => ?main)
      case main =>
        rcases hpre with ⟨hz0, rfl⟩ | ⟨hz0, rfl⟩
        · refine ⟨.str z, rfl, false, ⟨sl_small79 (n := z.length) (by omega), by rw [hz0]; rfl⟩, iteF ?_⟩
          exact kk _ _ ⟨rfl, s2, hp2⟩
        · refine ⟨.str z, rfl, true, ⟨sl_small79 (n := z.length) (by omega), (bne_iff_ne.mpr (by omega)).symm⟩, iteT ?_⟩
          refine ⟨.ref p, rfl, .inl ⟨rfl, _, SqL.of hp2⟩, .str z, rfl, p, _, _, rfl, rfl, hp2, sl_small79 (n := (ls.map V.str).length + 1) (by rw [List.length_map]; omega), ?_⟩
          refine kk _ _ ⟨rfl, fun c o e => by rw [upd_ne (ne_of_none e hp)]; exact s2 c o e, ?_⟩
          rw [upd_same, List.map_append]
          rfl
      case rest =>
        obtain ⟨rfl, sy, hpL⟩ := hF
        cases hL : L with
        | nil =>
          subst hL
          refine ⟨.ref p, rfl, false, .inl ⟨_, SqL.of hpL, rfl⟩, iteT ?_⟩
          refine ⟨_, rfl, fun d hd' => qe (some 0) Hy d ?_ sy hd'⟩
          rw [hsay]
          rfl
        | cons l0 L' =>
        have hne : L ≠ [] := by rw [hL]; simp
        refine ⟨.ref p, rfl, true, .inl ⟨_, SqL.of hpL, by rw [hL]; rfl⟩, iteF ?_⟩
        show _
        refine nx_mk ?_
        have hso : sayOf L rest = (match plOf L with
          | .inr k => .inr k
          | .inl (c, rows) => if rest = true ∨ rows.length < c then .inr L.length else .inl rows) := rfl
        refine ⟨.ref p, rfl, p, L, rfl, hpL, hne, by omega, fun k H3 d ek s3 hd' => qe (some k) H3 d ?_ (sy.trans s3) hd', fun c rows H3 pp rw' xs ek s3 hpp hrw hR => ?_⟩
        · rw [hsay, hso, ek]
        obtain ⟨w1, w2, w3, w4, w5⟩ := plOf_ok ek
        rw [ek] at hso
        dsimp only at hso
        refine ⟨pp, _, rfl, hpp, rfl, _, _, rfl, _, _, rfl, rfl, ?_⟩
        refine nx_mk ?_
        have hRl := hR.1
        have raise : sayOf L rest = .inr L.length → ∀ d, H3 d = none → E (.ref C) (some d) (upd H3 d (.xd [(("place" : Str), .int ((L.map V.str).length : Int))])) := fun e d hd' => by
          rw [List.length_map]
          exact qe (some L.length) H3 d (by rw [hsay, e]) (sy.trans s3) hd'
        refine ⟨.str z, rfl, rest, ⟨sl_small79 (n := z.length) (by omega), tz.symm⟩, ?_⟩
        cases hrest : rest with
        | true =>
          refine iteT ?_
          refine ⟨.ref p, rfl, p, _, rfl, .inl (SqL.of (s3 _ _ hpL)), _, rfl, raise ?_⟩
          rw [hso, if_pos (.inl hrest)]
        | false =>
        refine iteF ?_
        refine ⟨.ref rw', rfl, rw', _, rfl, .inl (SqL.of hrw), .int (c : Int), rfl, _, _, rfl, rfl, _, rfl, ?_⟩
        by_cases hlt : rows.length < c
        · rw [hRl, decide_eq_true (show ((rows.length : Nat) : Int) < (c : Int) by omega)]
          refine iteT ?_
          refine ⟨.ref p, rfl, p, _, rfl, .inl (SqL.of (s3 _ _ hpL)), _, rfl, raise ?_⟩
          rw [hso, if_pos (.inr hlt)]
        · rw [hRl, decide_eq_false (show ¬ ((rows.length : Nat) : Int) < (c : Int) by omega)]
          refine iteF ?_
          show _
          refine nx_mk ?_
          refine ⟨.ref rw', rfl, rw', _, rfl, .inl ⟨SqL.of hrw, fun pt hpt => ?_⟩⟩
          have s4 := Sm.new (o := .tup xs) hpt
          refine q rows _ _ ?_ (sy.trans (s3.trans s4)) ⟨pt, xs, rfl, SqT.of upd_same, hR.same s4⟩
          rw [hsay, hso, if_neg (by rw [hrest]; simp [hlt])]
    | _ =>
      refine iteT ?_
      exact ⟨_, rfl, fun d hd' => qe none H d rfl (Sm.refl H) hd'⟩
end
section
variable {P : Program} {w : World} {K : PySem.W.Frag} {mg : Str → Option Value} {base : Heap}
/-! ### what the law tells of parse_table -/
def placeD : Option Nat → PyData
  | some k => .int (k : Int)
  | none => .none
noncomputable def tellD (x : PyData) : PyData := match sayD x with
  | .inl t => .list [.str "table", tabD t]
  | .inr k => .list [.str "line", placeD k]
theorem place_da {ok : Addr → Prop} {H : Hp} (k : Option Nat) : Da K ok H (placeV k) (placeD k) := by
  cases k with
  | none => exact .non
  | some k => exact .int _
structure ToldDefs (K : PySem.W.Frag) (mg : Str → Option Value) (C fE CM CI CU : Addr) : Prop where
  B : Bi mg
  err : PySem.Err_ParseError.Txt K mg C fE
  exc : ExcC K C
  gM : mg "MergeError" = some (.ref CM)
  gI : mg "InvalidTable" = some (.ref CI)
  gU : mg "UnequalSizes" = some (.ref CU)
  gL : mg "LookupError" = none
  iM : PySem.W.kitOne K (.ref C) (.ref CM) = some true
  iA : PySem.W.kitAny K (.ref C) [.ref CI, .ref CU, .type "LookupError"] = some false
  lines : ∃ f fd, Df K mg "parse_lines" s_parse_lines f fd ["lines"]
  count : ∃ f fd, Df K mg "count_in" s_count_in f fd ["line"]
  row : ∃ f fd, Df K mg "row_in" s_row_in f fd ["line", "size"]
  number : ∃ f fd, Df K mg "number_of" s_number_of f fd ["word"]
  level : ∃ f fd, Df K mg "is_level" s_is_level f fd ["value"]
  whole : ∃ f fd, Df K mg "is_whole" s_is_whole f fd ["value"]
  gD : ∃ t, mg "DIGITS" = some (.int 13 t)
  gIt : ∃ t, mg "ITEMS" = some (.int 12 t)
  gLv : ∃ t, mg "LEVEL" = some (.int 1000000000000 t)
def ts_told79 (K : PySem.W.Frag) (C CM CI CU a : Addr) (cls : Value) (d : Option Addr) : TS :=
  tSeq (tAsg (tCB (rIsD K C a cls d) (tCons (tVar 1) (tCons (tC (.ref CM)) tNil))) (gName 2)) (tSeq (tIfS (tB (tCB (rIsDT K C a cls d) (tCons (tVar 1) (tCons (tTup (tCons (tC (.ref CI)) (tCons (tC (.ref CU)) (tCons (tC (.ty "LookupError")) tNil)))) tNil)))) (tAsg (tC (.bl false)) (gName 2)) tNext) (tRet (tIf (tB (tVar 2)) (tLstS (tCons (tC (.str "line")) (tCons (tGetParseError C a cls d (tVar 1)) tNil))) (tLstS (tCons (tC (.str "other")) tNil)))))
def sp_told79 (K : PySem.W.Frag) : Sp := fun vs H Q _ => ∃ (ok : Addr → Prop) (v : V) (x : PyData), vs = [v] ∧ Da K ok H v x ∧ (∀ s, x = .str s → s.length ≤ 12000000) ∧ ∀ (H' : Hp) (p : V), Sm H H' → Da K allOk H' p (tellD x) → Q p H'
theorem ok_told79 {f fD C fE CM CI CU : Addr} {fd fdD : FuncData} {k : Nat} (F : Fun K "_law_told" "_law_told" s_L_told f fd) (DD : Df K mg "parse_table" s_parse_table fD fdD ["value"]) (T : ToldDefs K mg C fE CM CI CU) :
    FnOk P w K mg base CX0 (k + 6) f fd ["_law_value"] (sp_told79 K) := by
  have B := T.B
  obtain ⟨f1, fd1, D1⟩ := T.lines
  obtain ⟨f2, fd2, D2⟩ := T.count
  obtain ⟨f3, fd3, D3⟩ := T.row
  obtain ⟨f4, fd4, D4⟩ := T.number
  obtain ⟨f5, fd5, D5⟩ := T.level
  obtain ⟨f6, fd6, D6⟩ := T.whole
  have GD : FnOk P w K mg base (L2.CX P w) (k + 5) fD fdD ["value"] (sp_ptab79 K C) := (ok_ptab79 T.err DD.F D1 D2 D3 D4 D5 D6 T.gD T.gIt T.gLv B).mono (by omega)
  refine F.ok sc_L_told (fun vs H Q E h => ?_) (fun cdv A outer s H vs Q E hr h => ?_)
  · obtain ⟨ok, v, x, rfl, _⟩ := h
    rfl
  · obtain ⟨ok, v, x, rfl, hd, hlen, q⟩ := h
    have nd := sc_L_told.nd
    refine ⟨_, pss_one (ps_try_as (i := 1) (tb := fun W => tRet (tLstS (tCons (tC (.str "table")) (tCons (tCallS (sp_ptab79 K C) (WE W) (tCons (tVar 0) tNil)) tNil)))) (ts := fun a cls d => ts_told79 K C CM CI CU a cls d) (Wout := fun _ _ _ _ => False) rfl rfl nd rfl rfl ⟨rfl, by decide, .inl T.err.gC⟩ takes0
      (fun W pn xe tk _ => pss_one (ps_ret (pe_lstS (pa_cons pe_str (pa_cons (by exact (pe_clX DD GD hr tk (by exact (pa_cons (pv 0) pa_nil)))) pa_nil)))))
      (fun a oe cls d pn hz hf => pss_cons (ps_set (i := 2) nd rfl (.inl rfl) (by exact (pe_callB (call_isD T.exc hz hf) (by rfl) B.isinstance (by decide +kernel) (pa_cons (pv 1) (pa_cons (pe_glob (v := .ref CM) (by rfl) T.gM rfl) pa_nil)))))
        (pss_cons (ps_if (pt_val (by exact (pe_callB (call_isDT T.exc hz hf) (by rfl) B.isinstance (by decide +kernel) (pa_cons (pv 1) (pa_cons (pe_tup (pa_cons (pe_glob (v := .ref CI) (by rfl) T.gI rfl) (pa_cons (pe_glob (v := .ref CU) (by rfl) T.gU rfl) (pa_cons (pe_bltn (by rfl) T.gL (by decide +kernel) (v := .ty "LookupError") rfl) pa_nil)))) pa_nil))))) (pss_one (ps_set (i := 2) nd rfl (.inl rfl) pe_bl)) pss_nil)
        (pss_one (ps_ret (by exact (pe_ifExp (pt_val (pv 2)) (pe_lstS (pa_cons pe_str (pa_cons (pe_getParseError T.err hz hf (pv 1)) pa_nil))) (pe_lstS (pa_cons pe_str pa_nil))))))))), ?_⟩
    refine ⟨v, rfl, ok, v, x, rfl, hd, hlen, fun k H1 d ek s1 hd1 => ?_, fun t H1 u et s1 hT => ?_⟩
    · refine ⟨true, T.err.te, fun _ a0 ha0 => ?_, fun q => Bool.noConfusion q⟩
      refine ⟨.ref a0, rfl, .ref CM, .ref CM, true, d, _, rfl, rfl, rfl, upd_same, .own CM, T.iM, ?_⟩
      refine ⟨.ref a0, rfl, (by show 3 ≤ sizeLine; decide), fun tp htp => ?_⟩
      have dt : d ≠ tp := ne_of_none (o := .xd [(("place" : Str), placeV k)]) upd_same htp
      have s2 := (s1.trans (Sm.new (o := .xd [(("place" : Str), placeV k)]) hd1)).trans (Sm.new (o := .tup [.ref CI, .ref CU, .ty "LookupError"]) htp)
      refine ⟨tp, _, [.ref CI, .ref CU, .type "LookupError"], false, d, _, rfl, rfl, rfl, (by rw [upd_ne dt]; exact upd_same), upd_same, .cons (.own CI) (.cons (.own CU) (.cons (.ty _) .nil)), T.iA, false, rfl, ?_⟩
      show _
      refine ⟨_, rfl, true, rfl, ?_⟩
      refine ⟨.ref a0, rfl, rfl, rfl, d, placeV k, rfl, (by rw [upd_ne dt]; exact upd_same), (by show 2 ≤ sizeLine; decide), fun p hp hs => ?_⟩
      refine q _ _ (s2.trans (Sm.new hp)) ?_
      rw [show tellD x = .list [.str "line", placeD k] by unfold tellD; rw [ek]]
      exact .lst upd_same trivial hs (.cons (.str _) (.cons (place_da k) .nil))
    · refine ⟨(by show 2 ≤ sizeLine; decide), fun p hp hs => ?_⟩
      refine q _ _ (s1.trans (Sm.new hp)) ?_
      rw [show tellD x = .list [.str "table", tabD t] by unfold tellD; rw [et]]
      exact .lst upd_same trivial hs (.cons (.str _) (.cons ((hT.same (Sm.new hp)).da) .nil))
end
section
variable {P : Program} {w : World} {K : PySem.W.Frag} {mg : Str → Option Value} {base : Heap}
/-! ### the law's own reading -/
def lvV : Option Int → V
  | some n => .int n
  | none => .non
def rSgn79 : R2 := fun x y H Q => ∃ (c : Nat) (z : Str), x = .str ⟨#[c]⟩ ∧ y = .str z ∧ Q (.bl (!decide (c ∈ z.cps.toList))) H
def sp_Lnum79 : Sp := fun vs H Q _ => ∃ (s : Str), vs = [.str s] ∧ s.length ≤ 13000000 ∧ ∀ H', Sm H H' → Q (lvV (lvOf s)) H'
theorem digs79 : TL.tl (Str.ofString "0123456789") = [48, 49, 50, 51, 52, 53, 54, 55, 56, 57] := by decide +kernel
theorem dig_mem {c : Nat} : c ∈ TL.tl (Str.ofString "0123456789") ↔ (48 ≤ c ∧ c ≤ 57) := by
  rw [digs79]
  simp only [List.mem_cons, List.not_mem_nil, or_false]
  omega
set_option maxHeartbeats 8000000 in
theorem ok_Lnum79 {f : Addr} {fd : FuncData} {k : Nat} (F : Fun K "_law_number" "_law_number" s_L_number f fd) (B : Bi mg) : FnOk P w K mg base CX0 (k + 1) f fd ["_law_word"] sp_Lnum79 := by
  refine F.ok sc_L_number (fun vs H Q E h => ?_) (fun cdv A outer s H vs Q E hr h => ?_)
  · obtain ⟨s, rfl, _⟩ := h
    rfl
  · obtain ⟨s, rfl, slen, q⟩ := h
    have nd := sc_L_number.nd
    refine ⟨_, (pss_cons (ps_if (PW.pt (pw_or (pt_not (pt_chain op_le op_le pe_int (pe_lenS78 B (pv 0)) pe_int)) (pw_or (pt_cmpR (op_neNilL hr.units) (pe_lc (own := [("_law_sign", 1)]) (g := gName 1) (tt := tTest (tOp rSgn79 (tVar 1) (tC (.str (Str.ofString "0123456789"))))) (te := tVar 1) rfl nd (pi_str (pv 0)) (blkOk_by (N := N_L_number) (sc := defScope s_L_number) (by decide +kernel))
            (fun _ _ _ _ _ => pg_name (i := 1) nd rfl (.inl rfl)) (fun _ _ _ _ _ => pts_one (pt_cmpR (r := rSgn79) op_notIn_sign (pv 1) pe_str (by rfl))) (fun _ _ _ _ _ => (pv 1))) (pe_lst pa_nil) (nomark _)) (pw_or1 (pt_cmpR op_eq (pe_ix ix_str (pv 0) pe_int (fun _ _ => rfl)) pe_str (nomark _))))))
      (pss_one (ps_ret pe_non))
      pss_nil)
      (pss_one (ps_ret (pe_ifExp (pt_cmpR op_le (pe_callTy call_int_str (by rfl) B.int (by decide +kernel) (pa_cons (pv 0) pa_nil)) (pe_op op_pow pe_int pe_int) (nomark _)) (pe_callTy call_int_str (by rfl) B.int (by decide +kernel) (pa_cons (pv 0) pa_nil)) pe_non)))), ?_⟩
    have wrong : ∀ H', Sm H H' → (∀ n : Int, LvOk n → s ≠ (toString n : Str)) → Q .non H' := fun H' s' h => by
      have := q H' s'
      rw [lvOf_none h] at this
      exact this
    refine ⟨.str s, rfl, s, rfl, sl_small79 (by omega), _, _, rfl, rfl, decide ((1 : Int) ≤ (s.length : Int)), rfl, ?_⟩
    by_cases l1 : 1 ≤ s.length
    rotate_left
    · rw [decide_eq_false (show ¬ (1 : Int) ≤ (s.length : Int) by omega)]
      refine ⟨false, rfl, iteT ?_⟩
      exact wrong _ (Sm.refl _) fun n hn e => l1 (right_word hn e).1
    rw [decide_eq_true (show (1 : Int) ≤ (s.length : Int) by omega)]
    refine ⟨_, _, rfl, rfl, decide ((s.length : Int) ≤ 13), rfl, ?_⟩
    by_cases l13 : s.length ≤ 13
    rotate_left
    · rw [decide_eq_false (show ¬ (s.length : Int) ≤ 13 by omega)]
      refine iteT ?_
      exact wrong _ (Sm.refl _) fun n hn e => l13 (right_word hn e).2.1
    rw [decide_eq_true (show (s.length : Int) ≤ 13 by omega)]
    refine iteF ?_
    refine ⟨.str s, rfl, s, rfl, fun D hD => lc_str (x := s) (fun i Hy => ∃ us : List V, Hy D = some (.lst us) ∧ us.length ≤ i ∧ (us = [] ↔ ∀ k c, k < i → (TL.tl s)[k]? = some c → 48 ≤ c ∧ c ≤ 57) ∧ Sm H Hy) ⟨[], upd_same, Nat.le_refl _, ⟨fun _ k c z => absurd z (Nat.not_lt_zero _), fun _ => rfl⟩, Sm.new hD⟩ (fun i c Hy hc hQ => ?_) (fun Hy hQ => ?_)⟩
    · obtain ⟨us, g1, gl, gw, sy⟩ := hQ
      have hi : i < s.length := by rw [TL.len_tl]; exact (List.getElem?_eq_some_iff.mp hc).1
      have step : ∀ P : Prop, (P ↔ ∀ k c, k < i → (TL.tl s)[k]? = some c → 48 ≤ c ∧ c ≤ 57) → ((P ∧ 48 ≤ c ∧ c ≤ 57) ↔ ∀ k c, k < i + 1 → (TL.tl s)[k]? = some c → 48 ≤ c ∧ c ≤ 57) := fun P hP => by
        constructor
        · rintro ⟨h1, h2⟩ k c' hk hc'
          rcases Nat.lt_or_ge k i with z | z
          · exact hP.mp h1 k c' z hc'
          · obtain rfl : k = i := by omega
            rw [hc] at hc'
            obtain rfl := Option.some.inj hc'
            exact h2
        · intro h
          exact ⟨hP.mpr fun k c' hk hc' => h k c' (by omega) hc', h i c (by omega) hc⟩
      refine ⟨rfl, .str ⟨#[c]⟩, rfl, c, _, rfl, rfl, _, rfl, ?_⟩
      by_cases hd : 48 ≤ c ∧ c ≤ 57
      · have hm : c ∈ (Str.ofString "0123456789").cps.toList := dig_mem.mpr hd
        rw [decide_eq_true hm]
        refine iteF ?_
        refine ⟨us, g1, by omega, ?_, sy⟩
        rw [← step _ gw]
        exact ⟨fun h => ⟨h, hd⟩, fun h => h.1⟩
      · have hm : ¬ c ∈ (Str.ofString "0123456789").cps.toList := fun z => hd (dig_mem.mp z)
        rw [decide_eq_false hm]
        refine iteT ?_
        refine ⟨.str ⟨#[c]⟩, rfl, us, g1, sl_small79 (n := us.length + 1) (by omega), _, upd_same, by rw [List.length_append]; simp; omega, ?_, fun cc o e => by rw [upd_ne (ne_of_none e hD)]; exact sy cc o e⟩
        rw [← step _ gw]
        exact ⟨fun h => absurd h (by simp), fun h => absurd h.2 hd⟩
    obtain ⟨us, g1, gl, gw, sy⟩ := hQ
    have gw : us = [] ↔ ∀ c ∈ TL.tl s, 48 ≤ c ∧ c ≤ 57 := by
      rw [gw]
      constructor
      · intro h c hc
        obtain ⟨k, hk⟩ := List.getElem?_of_mem hc
        exact h k c (List.getElem?_eq_some_iff.mp hk).1 hk
      · intro h k c _ hk
        exact h c (List.mem_of_getElem? hk)
    refine ⟨Nat.zero_le _, fun e0 he0 => ?_⟩
    have sE := Sm.new (o := .lst []) he0
    refine ⟨D, e0, us, rfl, rfl, SqL.of (sE _ _ g1), SqL.of upd_same, _, rfl, ?_⟩
    generalize upd Hy e0 (.lst []) = Hz at sE
    have sz := sy.trans sE
    by_cases hu : us = []
    rotate_left
    · rw [decide_eq_false hu]
      refine iteT ?_
      exact wrong _ sz fun n hn e => hu (gw.mpr (right_word hn e).2.2.1)
    rw [decide_eq_true hu]
    refine iteF ?_
    have hd := gw.mp hu
    obtain ⟨c0, hc0⟩ : ∃ c, (TL.tl s)[0]? = some c := ⟨_, List.getElem?_eq_getElem (by rw [← TL.len_tl]; omega)⟩
    have hh : (TL.tl s).head? = some c0 := by rw [List.head?_eq_getElem?]; exact hc0
    refine ⟨.str s, rfl, s, 0, c0, rfl, rfl, sl_small79 (by omega), atI_nat (j := 0) hc0, rfl, _, rfl, ?_⟩
    have z48 : TL.tl (Str.ofString "0") = [48] := by decide +kernel
    by_cases h0 : c0 = 48
    · rw [decide_eq_true (show V.str ⟨#[c0]⟩ = V.str (Str.ofString "0") from congrArg V.str (TL.ext_tl (by rw [z48, h0])))]
      refine iteT ?_
      refine wrong _ sz fun n hn e => (right_word hn e).2.2.2.1 ?_
      rw [hh, h0]
    rw [decide_eq_false (show ¬ V.str ⟨#[c0]⟩ = V.str (Str.ofString "0") from fun z => h0 (by have := congrArg TL.tl (V.str.inj z); rw [z48] at this; exact (List.cons.inj this).1))]
    refine iteF ?_
    refine nx_mk ?_
    obtain ⟨i, ei, i1, i2, es⟩ := law_word l1 l13 hd (by rw [hh]; exact fun z => h0 (Option.some.inj z))
    refine ⟨.str s, rfl, s, i, rfl, ei, by omega, _, _, rfl, rfl, ⟨by decide, by decide, by decide⟩, _, _, rfl, rfl, _, rfl, ?_⟩
    by_cases i12 : i ≤ 1000000000000
    · rw [decide_eq_true (show i ≤ (10 : Int) ^ (12 : Int).toNat from i12)]
      refine iteT ?_
      refine ⟨.str s, rfl, s, i, rfl, ei, by omega, ?_⟩
      have := q _ sz
      rw [es, lvOf_some ⟨i1, i12⟩] at this
      exact this
    · rw [decide_eq_false (show ¬ i ≤ (10 : Int) ^ (12 : Int).toNat from i12)]
      refine iteF ?_
      refine wrong _ sz fun n hn e => i12 ?_
      rw [es] at e
      rw [str_int_inj (by omega) (by have := hn.1; omega) e]
      exact hn.2
end
section
variable {P : Program} {w : World} {K : PySem.W.Frag} {mg : Str → Option Value} {base : Heap}
theorem inV_str {s : Str} {hs : List Str} : inV (.str s) (hs.map V.str) = decide (s ∈ hs) := by
  unfold inV
  rw [List.any_map, Bool.eq_iff_iff, List.any_eq_true, decide_eq_true_iff]
  constructor
  · rintro ⟨y, hy, e⟩
    have e : (y == s) = true := e
    rw [← eq_of_beq e]
    exact hy
  · intro h
    exact ⟨s, h, (beq_self_eq_true s : (s == s) = true)⟩
theorem flat_strs (hs : List Str) : (hs.map V.str).all flatV = true := by
  rw [List.all_map, List.all_eq_true]
  exact fun _ _ => rfl
theorem inV_none {os : List (Option Int)} : inV .non (os.map lvV) = decide (none ∈ os) := by
  unfold inV
  rw [List.any_map, Bool.eq_iff_iff, List.any_eq_true, decide_eq_true_iff]
  constructor
  · rintro ⟨y, hy, e⟩
    cases y with
    | none => exact hy
    | some n => exact absurd (show false = true from e) Bool.false_ne_true
  · intro h
    exact ⟨none, h, rfl⟩
theorem flat_lvs (os : List (Option Int)) : (os.map lvV).all flatV = true := by
  rw [List.all_map, List.all_eq_true]
  exact fun o _ => by cases o <;> rfl
def sp_read79 (K : PySem.W.Frag) : Sp := fun vs H Q _ => ∃ (ok : Addr → Prop) (v : V) (x : PyData), vs = [v] ∧ Da K ok H v x ∧ (∀ s, x = .str s → s.length ≤ 12000000) ∧ ∀ (H' : Hp) (p : V), Sm H H' → Da K allOk H' p (tellD x) → Q p H'
set_option maxHeartbeats 16000000 in
theorem ok_read79 {f fN : Addr} {fd fdN : FuncData} {k : Nat} (F : Fun K "_law_reading" "_law_reading" s_L_reading f fd) (D_L_number : Df K mg "_law_number" s_L_number fN fdN ["_law_word"]) (B : Bi mg) : FnOk P w K mg base CX0 (k + 2) f fd ["_law_value"] (sp_read79 K) := by
  have G_L_number : FnOk P w K mg base CX0 (k + 1) fN fdN ["_law_word"] sp_Lnum79 := ok_Lnum79 D_L_number.F B
  refine F.ok sc_L_reading (fun vs H Q E h => ?_) (fun cdv A outer s0 H vs Q E hr h => ?_)
  · obtain ⟨ok, v, x, rfl, _⟩ := h
    rfl
  · obtain ⟨ok, v, x, rfl, hd, hlen, q⟩ := h
    have nd := sc_L_reading.nd
    refine ⟨_, (pss_cons (ps_if (pt_not (pt_val (pe_callB call_isi (by rfl) B.isinstance (by decide +kernel) (pa_cons (pv 0) (pa_cons (pe_bltn (by rfl) B.str (by decide +kernel) (v := .ty "str") rfl) pa_nil)))))
      (pss_one (ps_ret (pe_lstS (pa_cons pe_str (pa_cons pe_non pa_nil)))))
      pss_nil)
      (pss_cons (ps_set (i := 1) nd rfl (.inl rfl) (pe_split (pv 0) pe_str))
      (pss_cons (ps_set (i := 2) nd rfl (.inl rfl) (pe_bm0 PySem.F.plainAttrs_list PySem.F.slot_list_pop PySem.F.type_list_pop mt_pop (pv 1)))
      (pss_cons (ps_set (i := 1) nd rfl (.inl rfl) (pe_op op_cat (pv 1) (pe_op op_rep (pe_lst (pa_cons (pv 2) pa_nil)) (pe_callTy call_int1 (by rfl) B.int (by decide +kernel) (pa_cons (pe_cmpR op_ne (pv 2) pe_str (nomark _)) pa_nil)))))
      (pss_cons (ps_setLc (i := 3) (own := [("_law_k", 9)]) (g := gName 9) (tt := tYes) (te := tOp (fun x y H Q => ∃ i j, x = .str i ∧ y = .str j ∧ i.length + j.length ≤ sizeLine ∧ Q (.str (i ++ j)) H) (tC (.str (Str.ofString "items "))) (tCB (fun xs H Q => ∃ n : Int, xs = [.int n] ∧ n.natAbs.log2 < 1920 ∧ Q (.str (toString n)) H) (tCons (tVar 9) tNil))) rfl nd rfl rfl (sw_true rfl rfl rfl (by decide +kernel)) (pi_range2 rfl B.range (pa_cons pe_int (pa_cons pe_int pa_nil))) (blkOk_by (N := N_L_reading) (sc := defScope s_L_reading) (by decide +kernel))
            (fun _ _ _ _ _ => pg_name (i := 9) nd rfl (.inl rfl)) (fun _ _ _ _ _ => pts_nil) (fun _ _ _ _ _ => (pe_op op_add_str pe_str (pe_callTy call_str_int (by rfl) B.str (by decide +kernel) (pa_cons (pv 9) pa_nil)))))
      (pss_cons (ps_if (PW.pt (pw_or (pt_cmpR (op_eqNilL hr.units) (pv 1) (pe_lst pa_nil) (nomark _)) (pw_or1 (pt_cmpR op_notIn_seq (pe_ix ix_list (pv 1) pe_int (fun _ _ => rfl)) (pv 3) (by rfl)))))
      (pss_one (ps_ret (pe_lstS (pa_cons pe_str (pa_cons pe_int pa_nil)))))
      pss_nil)
      (pss_cons (ps_par (i := 4) (j := 5) rfl nd rfl rfl (by decide) rfl rfl (pa_cons (pe_op op_add (pe_bm PySem.F.plainAttrs_list PySem.F.slot_list_index PySem.F.type_list_index mt_index (pv 3) (pa_cons (pe_ix ix_list (pv 1) pe_int (fun _ _ => rfl)) pa_nil)) pe_int) (pa_cons (pe_lst (pa_cons (pe_tup pa_nil) pa_nil)) pa_nil)) rfl)
      (pss_cons (ps_for PassesOwn.never rfl (pi_range2 rfl B.range (pa_cons pe_int (pa_cons (pe_len B (pv 1)) pa_nil))) (pg_name (i := 6) nd rfl (.inl rfl))
      (pss_cons (ps_set (i := 7) nd rfl (.inl rfl) (pe_split (pe_ix ix_list (pv 1) (pv 6) (fun _ _ => rfl)) pe_str))
      (pss_cons (ps_setLc (i := 8) (own := [("_law_word", 10)]) (g := gName 10) (tt := tYes) (te := tCall sp_Lnum79 [] E0 (tCons (tVar 10) tNil)) rfl nd rfl rfl (sw_true rfl rfl rfl (by decide +kernel)) (pi_list (pe_slice sl_list (pv 7) (po_some pe_int) po_none)) (blkOk_by (N := N_L_reading) (sc := defScope s_L_reading) (by decide +kernel))
            (fun _ _ _ _ _ => pg_name (i := 10) nd rfl (.inl rfl)) (fun _ _ _ _ _ => pts_nil) (fun _ _ _ _ _ => (pe_cl D_L_number G_L_number hr (pa_cons (pv 10) pa_nil))))
      (pss_cons (ps_if (PW.pt (pw_or (pt_cmpR op_ge (pv 6) (pv 4) (nomark _)) (pw_or (pt_cmpR op_ne (pe_ix ix_list (pv 7) pe_int (fun _ _ => rfl)) pe_str (nomark _)) (pw_or (pt_cmpR op_ne (pe_len B (pv 8)) (pv 6) (nomark _)) (pw_or1 (pt_cmpR op_in_seq pe_non (pv 8) (by rfl)))))))
      (pss_one (ps_ret (pe_lstS (pa_cons pe_str (pa_cons (pv 6) pa_nil)))))
      pss_nil)
      (pss_one (ps_expr (pe_bm PySem.F.plainAttrs_list PySem.F.slot_list_append PySem.F.type_list_append mt_append (pv 5) (pa_cons (pe_callTy call_tuple_of (by rfl) B.tuple (by decide +kernel) (pa_cons (pv 8) pa_nil)) pa_nil))))))))
      (pss_cons (ps_if (PW.pt (pw_or (pt_cmpR op_ne (pv 2) pe_str (nomark _)) (pw_or1 (pt_cmpR op_lt (pe_len B (pv 5)) (pv 4) (nomark _)))))
      (pss_one (ps_ret (pe_lstS (pa_cons pe_str (pa_cons (pe_len B (pv 1)) pa_nil)))))
      pss_nil)
      (pss_one (ps_ret (pe_lstS (pa_cons pe_str (pa_cons (pe_callTy call_tuple_of (by rfl) B.tuple (by decide +kernel) (pa_cons (pv 5) pa_nil)) pa_nil)))))))))))))), ?_⟩
    refine ⟨v, rfl, v, .ty "str", .type (tyN x), _, _, rfl, .ty _, hd.ty, kit_ty (kt_str79 x), _, rfl, ?_⟩
    cases x with
    | str s =>
      refine iteF ?_
      show _
      cases hd
      have slen := hlen s rfl
      have v1 : TL.tl (Str.ofString "\n") = [10] := by decide +kernel
      have v2 : (Str.ofString "\n").cps.all (· < 256) = true := by decide +kernel
      have v3 : ((Str.ofString "\n").length == 0) = false := by decide +kernel
      have u1 : TL.tl (Str.ofString " ") = [32] := by decide +kernel
      have u2 : (Str.ofString " ").cps.all (· < 256) = true := by decide +kernel
      have u3 : ((Str.ofString " ").length == 0) = false := by decide +kernel
      have ui : TL.tl (Str.ofString "items ") = wItems ++ [32] := by decide +kernel
      have ue : ∀ z : Str, z = Str.ofString "" ↔ z.length = 0 := fun z => ⟨fun e => by rw [e]; rfl, fun e => TL.ext_tl (by rw [List.eq_nil_of_length_eq_zero (show (TL.tl z).length = 0 by rw [← TL.len_tl]; exact e)]; rfl)⟩
      obtain ⟨m1, m2⟩ := split_ms (s := s) v1 v2
      obtain ⟨ls, z, eS⟩ : ∃ ls z, Txt.split s (Str.ofString "\n") = ls ++ [z] := by
        rcases List.eq_nil_or_concat (Txt.split s (Str.ofString "\n")) with e | ⟨ls, z, e⟩
        · exact absurd e m2
        · exact ⟨ls, z, by rw [e, List.concat_eq_append]⟩
      obtain ⟨l1, l2⟩ := lines_snoc eS
      rw [eS, mS_app, mS_cons, mS_nil] at m1
      have wlen := mS_len ls
      have hsay : sayD (.str s) = (match sayOf (linesOf s) (restOf s) with | .inl t => .inl t | .inr k => .inr (some k)) := rfl
      obtain ⟨L, rest, eL, eR, hz, hpre⟩ : ∃ L rest, linesOf s = L ∧ restOf s = rest ∧ rest = (!decide (z.length = 0)) ∧ L = ls ++ (if z.length = 0 then [] else [z]) := by
        by_cases hz : z.length = 0
        · exact ⟨_, _, (l1 hz).1, (l1 hz).2, by rw [decide_eq_true hz]; rfl, by rw [if_pos hz, List.append_nil]⟩
        · exact ⟨_, _, (l2 hz).1, (l2 hz).2, by rw [decide_eq_false hz]; rfl, by rw [if_neg hz]⟩
      rw [eL, eR] at hsay
      have mL : mS L ≤ 12000001 := by
        rw [hpre, mS_app]
        split
        · rw [mS_nil]; omega
        · rw [mS_cons, mS_nil]; omega
      have lenL := mS_len L
      -- what is told of a place
      have line : ∀ (k : Nat) (Hy : Hp) (p : Addr), sayOf L rest = .inr k → Sm H Hy → Hy p = none → p ≠ sysModules → Q (.ref p) (upd Hy p (.lst [.str (Str.ofString "line"), .int (k : Int)])) := fun k Hy p e sy hp hs => by
        refine q _ _ (sy.trans (Sm.new hp)) ?_
        rw [show tellD (.str s) = .list [.str "line", placeD (some k)] by unfold tellD; rw [hsay, e]]
        exact .lst upd_same trivial hs (.cons (.str _) (.cons (.int _) .nil))
      refine nx_mk ?_
      refine ⟨.str s, rfl, ⟨_, rfl⟩, s, _, rfl, rfl, v3, sl_small79 (n := s.length + 2) (by omega), fun p hp => ?_⟩
      have s1 : Sm H (upd H p (.lst ((Txt.split s (Str.ofString "\n")).map V.str))) := Sm.new hp
      have hp1 : (upd H p (.lst ((Txt.split s (Str.ofString "\n")).map V.str))) p = some (.lst (ls.map V.str ++ [.str z])) := by rw [eS, List.map_append]; exact upd_same
      generalize upd H p (.lst ((Txt.split s (Str.ofString "\n")).map V.str)) = H1 at s1 hp1
      refine nx_mk ?_
      refine ⟨.ref p, rfl, .inl ⟨rfl, _, SqL.of hp1⟩, p, _, .str z, rfl, rfl, hp1, by rw [List.length_append]; show (ls.map V.str ++ [.str z])[(ls.map V.str).length + 1 - 1]? = _; rw [Nat.add_sub_cancel, List.getElem?_append_right (Nat.le_refl _), Nat.sub_self]; rfl, ?_⟩
      rw [List.dropLast_concat]
      have s2 : Sm H (upd H1 p (.lst (ls.map V.str))) := fun c o e => by rw [upd_ne (ne_of_none e hp)]; exact s1 c o e
      have hp2 : (upd H1 p (.lst (ls.map V.str))) p = some (.lst (ls.map V.str)) := upd_same
      generalize upd H1 p (.lst (ls.map V.str)) = H2 at s2 hp2
      refine nx_mk ?_
      -- the lines with the last one
      refine ⟨.ref p, rfl, .str z, rfl, (by show 1 ≤ sizeLine; decide), fun o1 ho1 => ?_⟩
      have s3 : Sm H2 (upd H2 o1 (.lst [.str z])) := Sm.new ho1
      have ho11 : (upd H2 o1 (.lst [.str z])) o1 = some (.lst [.str z]) := upd_same
      generalize upd H2 o1 (.lst [.str z]) = H3 at s3 ho11
      refine ⟨.str z, rfl, rfl, .inr ⟨_, rfl, ?_⟩⟩
      have hk : ∃ kk : Nat, (if (!decide (V.str z = V.str (Str.ofString ""))) = true then (1 : Int) else 0) = (kk : Int) ∧ kk ≤ 1 ∧ (List.replicate kk [V.str z]).flatten = (if z.length = 0 then [] else [z]).map V.str := by
        by_cases e : z.length = 0
        · refine ⟨0, ?_, by decide, by rw [if_pos e]; rfl⟩
          rw [decide_eq_true (congrArg V.str ((ue z).mpr e))]
          rfl
        · refine ⟨1, ?_, by decide, by rw [if_neg e]; rfl⟩
          rw [decide_eq_false (fun h => e ((ue z).mp (V.str.inj h)))]
          rfl
      obtain ⟨kk, hk1, hk2, hk3⟩ := hk
      rw [hk1]
      refine ⟨o1, (kk : Int), _, rfl, rfl, ho11, by omega, by omega, by rw [Int.toNat_natCast]; exact sl_small79 (n := 1 * kk) (by omega), fun o2 ho2 => ?_⟩
      rw [Int.toNat_natCast, hk3]
      have s4 : Sm H3 (upd H3 o2 (.lst ((if z.length = 0 then [] else [z]).map V.str))) := Sm.new ho2
      have ho22 : (upd H3 o2 (.lst ((if z.length = 0 then [] else [z]).map V.str))) o2 = some (.lst ((if z.length = 0 then [] else [z]).map V.str)) := upd_same
      have hp4 := s4 _ _ (s3 _ _ hp2)
      have s04 := s2.trans (s3.trans s4)
      generalize upd H3 o2 (.lst ((if z.length = 0 then [] else [z]).map V.str)) = H4 at s4 ho22 hp4 s04
      refine ⟨p, o2, _, _, rfl, rfl, hp4, ho22, ?_, fun pL hpL0 => ?_⟩
      · rw [List.length_map, List.length_map]
        exact sl_small79 (n := ls.length + _) (by split <;> simp <;> omega)
      rw [← List.map_append, ← hpre]
      have s5 : Sm H4 (upd H4 pL (.lst (L.map V.str))) := Sm.new hpL0
      have hpL : (upd H4 pL (.lst (L.map V.str))) pL = some (.lst (L.map V.str)) := upd_same
      have s05 := s04.trans s5
      generalize upd H4 pL (.lst (L.map V.str)) = H5 at s5 hpL s05
      refine nx_mk ?_
      -- the heads
      refine ⟨_, _, rfl, ⟨by decide, by decide, by decide, by decide⟩, fun D hD => ?_⟩
      refine lc_range (n := ((13 : Int) - 1).toNat) (lo := 1) (fun i Hy => ∃ hs : List Str, Hy D = some (.lst (hs.map V.str)) ∧ hs.length = i ∧ (∀ k h, hs[k]? = some h → TL.tl h = cI (k + 1)) ∧ Sm H5 Hy) ⟨[], upd_same, rfl, (by intro k h e; rw [List.getElem?_nil] at e; cases e), Sm.new hD⟩ (fun i Hy hi hQ => ?_) (fun H6 hQ => ?_)
      · obtain ⟨hs, g1, gl, gw, sy⟩ := hQ
        have ew : TL.tl (Str.ofString "items " ++ (toString ((1 : Int) + (i : Int)) : Str)) = cI (i + 1) := by
          rw [TL.tl_append, ui, tl_int (by omega)]
          unfold cI numI
          rw [show ((1 : Int) + (i : Int)).toNat = i + 1 by omega, List.append_assoc]
          rfl
        refine ⟨rfl, .int (1 + (i : Int)), rfl, _, rfl, log_79 (by omega), _, _, rfl, rfl, ?_, ?_⟩
        · rw [TL.len_tl, TL.len_tl, ← List.length_append, ← TL.tl_append, ew]
          exact Nat.le_trans (cI_len (by omega)) (by decide)
        refine ⟨_, g1, sl_small79 (n := (hs.map V.str).length + 1) (by rw [List.length_map]; omega), hs ++ [Str.ofString "items " ++ (toString ((1 : Int) + (i : Int)) : Str)], by rw [upd_same, List.map_append]; rfl, by rw [List.length_append, gl]; rfl, fun k h e => ?_, fun cc o e => by rw [upd_ne (ne_of_none e hD)]; exact sy cc o e⟩
        rcases Nat.lt_or_ge k hs.length with y | y
        · rw [List.getElem?_append_left y] at e
          exact gw k h e
        · rw [List.getElem?_append_right y] at e
          have y1 := (List.getElem?_eq_some_iff.mp e).1
          have e0 : k - hs.length = 0 := by simp at y1; omega
          rw [e0] at e
          obtain rfl := Option.some.inj (show some _ = some h from e)
          rw [ew, show k = i by omega]
      obtain ⟨hs, g1, gl, gw, sy⟩ := hQ
      have s06 := s05.trans sy
      have hpL6 := sy _ _ hpL
      show _
      refine nx_mk ?_
      have hso : sayOf L rest = (match plOf L with
          | .inr k => .inr k
          | .inl (c, rows) => if rest = true ∨ rows.length < c then .inr L.length else .inl rows) := rfl
      refine ⟨.ref pL, rfl, Nat.zero_le _, fun e0 he0 => ?_⟩
      have sE0 := Sm.new (o := .lst []) he0
      refine ⟨pL, e0, _, rfl, rfl, SqL.of (sE0 _ _ hpL6), SqL.of upd_same, _, rfl, ?_⟩
      have s07 := s06.trans sE0
      have hpL7 := sE0 _ _ hpL6
      have hD7 := sE0 _ _ g1
      generalize upd H6 e0 (.lst []) = H7 at sE0 s07 hpL7 hD7
      cases hL : L with
      | nil =>
        refine iteT ?_
        refine ⟨(by show 2 ≤ sizeLine; decide), fun pr hpr hs => line 0 H7 pr ?_ s07 hpr hs⟩
        rw [hL]
        rfl
      | cons l0 L' =>
      rw [hL] at hpL7 lenL mL hso line hsay
      rw [mS_cons] at mL
      have wL := mS_len L'
      refine iteF ?_
      have hpl : plOf (l0 :: L') = match cntOf l0 with
        | none => .inr 0
        | some c => match goR c 1 L' [[]] with
          | .inr k => .inr k
          | .inl rows => .inl (c, rows) := rfl
      refine ⟨.ref pL, rfl, pL, _, 0, _, rfl, rfl, SqL.of hpL7, atI_nat (j := 0) rfl, .ref D, rfl, D, _, rfl, .inl (SqL.of hD7), rfl, flat_strs hs, _, rfl, ?_⟩
      rw [inV_str]
      cases hc : cntOf l0 with
      | none =>
        have nm : ¬ l0 ∈ hs := fun h => by
          obtain ⟨k, hk⟩ := List.getElem?_of_mem h
          have lk := (List.getElem?_eq_some_iff.mp hk).1
          rw [cntOf_some (by omega) (by omega) (gw k l0 hk)] at hc
          cases hc
        rw [decide_eq_false nm]
        refine iteT ?_
        refine ⟨(by show 2 ≤ sizeLine; decide), fun pr hpr hs => line 0 H7 pr ?_ s07 hpr hs⟩
        rw [hso, hpl, hc]
      | some c =>
      obtain ⟨⟨c1, c12⟩, hct⟩ := cntOf_spec hc
      obtain ⟨k, rfl⟩ : ∃ k, c = k + 1 := ⟨c - 1, by omega⟩
      rw [hc] at hpl
      dsimp only at hpl
      have hk : hs[k]? = some l0 := by
        obtain ⟨h, hh⟩ : ∃ h, hs[k]? = some h := ⟨_, List.getElem?_eq_getElem (by omega)⟩
        rw [hh, TL.ext_tl ((gw k h hh).trans hct.symm)]
      rw [decide_eq_true (List.mem_of_getElem? hk)]
      refine iteF ?_
      show _
      refine nx_mk ?_
      refine ⟨.ref D, rfl, .inl ⟨rfl, _, SqL.of hD7⟩, .ref pL, rfl, pL, _, 0, _, rfl, rfl, SqL.of hpL7, atI_nat (j := 0) rfl, D, _, _, k, .str l0, rfl, rfl, SqL.of hD7, rfl, flat_strs hs, by rw [List.getElem?_map, hk]; rfl, (beq_self_eq_true l0 : (l0 == l0) = true), fun m z' hm hz' => ?_, ?_⟩
      · rw [List.getElem?_map] at hz'
        obtain ⟨h, hh, rfl⟩ := Option.map_eq_some_iff.mp hz'
        have ne : h ≠ l0 := fun e => by
          subst e
          have := cI_inj ((gw m h hh).symm.trans (gw k h hk))
          omega
        exact (beq_eq_false_iff_ne.mpr ne : (h == l0) = false)
      refine ⟨_, _, rfl, rfl, ?_⟩
      refine ⟨Nat.zero_le _, fun t0 ht0 => ⟨small1000 (Nat.le_of_ble_eq_true rfl), fun rw ht1 => ?_⟩⟩
      have sT0 := Sm.new (o := .tup []) ht0
      have qt0 : SqT K (upd H7 t0 (.tup [])) t0 [] := SqT.of upd_same
      generalize upd H7 t0 (.tup []) = H8 at sT0 ht1 qt0
      have s9 : Sm H8 (upd H8 rw (.lst [.ref t0])) := Sm.new ht1
      have hrw7 : H7 rw = none := Sm.free sT0 ht1
      have hrw9 : (upd H8 rw (.lst [.ref t0])) rw = some (.lst [.ref t0]) := upd_same
      have q9 := s9.sqT qt0
      have s79 := sT0.trans s9
      generalize upd H8 rw (.lst [.ref t0]) = H9 at s9 hrw9 q9 s79
      refine ⟨_, _, rfl, ?_⟩
      refine nx_mk ?_
      refine ⟨.ref pL, rfl, pL, _, rfl, .inl (SqL.of (s79 _ _ hpL7)), _, _, rfl, ⟨by decide, by decide, by omega, by rw [List.length_map, List.length_cons]; omega⟩, ?_⟩
      rw [show ((((l0 :: L').map V.str).length : Nat) : Int) - 1 = (L'.length : Int) by rw [List.length_map, List.length_cons]; omega, Int.toNat_natCast]
      refine for_range (n := L'.length) (fun i σ Hy => ∃ x6 x7 x8 xs rows, σ = [some (.str s), some (.ref pL), some (.str z), some (.ref D), some (.int ((k : Int) + 1)), some (.ref rw), x6, x7, x8, none, none] ∧ Hy rw = some (.lst xs) ∧ Rows K Hy xs rows ∧ rows.length = i + 1 ∧ goR (k + 1) 1 L' [[]] = goR (k + 1) (i + 1) (L'.drop i) rows ∧ Sm H7 Hy)
        ⟨none, none, none, [.ref t0], [[]], rfl, hrw9, Rows.nil.snoc ⟨t0, rfl, q9⟩, rfl, rfl, s79⟩ (fun i σ Hy hi hI => ?_) (fun σ Hy hI => ?_)
      · obtain ⟨x6, x7, x8, xs, rows, rfl, hx, hR, hrl, hg, sy⟩ := hI
        rw [show (1 : Int) + (i : Int) = ((i + 1 : Nat) : Int) by omega]
        obtain ⟨l, hl⟩ : ∃ l, L'[i]? = some l := ⟨_, List.getElem?_eq_getElem hi⟩
        have ed : L'.drop i = l :: L'.drop (i + 1) := by
          rw [List.drop_eq_getElem_cons hi, (List.getElem?_eq_some_iff.mp hl).2]
        rw [ed, goR_step] at hg
        have ml := mS_mem (List.mem_of_getElem? hl)
        obtain ⟨n1, n2⟩ := split_ms (s := l) u1 u2
        have hro : rowOf l (i + 1) = (match Txt.split l (Str.ofString " ") with
          | [] => none
          | w :: ws => if w = Str.ofString "row" ∧ ws.length = i + 1 then lvAll ws else none) := rfl
        show _
        refine ⟨.ref pL, rfl, .int ((i + 1 : Nat) : Int), rfl, pL, _, _, .str l, rfl, rfl, SqL.of (sy _ _ hpL7), atI_nat (j := i + 1) (by rw [List.getElem?_map]; show Option.map V.str (L'[i]?) = _; rw [hl]; rfl), ⟨_, rfl⟩, l, _, rfl, rfl, u3, sl_small79 (n := l.length + 2) (by omega), fun p7 hp7 => ?_⟩
        have sa : Sm Hy (upd Hy p7 (.lst ((Txt.split l (Str.ofString " ")).map V.str))) := Sm.new hp7
        have hp77 : (upd Hy p7 (.lst ((Txt.split l (Str.ofString " ")).map V.str))) p7 = some (.lst ((Txt.split l (Str.ofString " ")).map V.str)) := upd_same
        generalize upd Hy p7 (.lst ((Txt.split l (Str.ofString " ")).map V.str)) = Ha at sa hp77
        generalize Txt.split l (Str.ofString " ") = ws0 at *
        obtain ⟨a, ws, rfl⟩ : ∃ a ws, ws0 = a :: ws := by
          cases ws0 with
          | nil => exact absurd rfl n2
          | cons a ws => exact ⟨a, ws, rfl⟩
        have hro : rowOf l (i + 1) = if a = Str.ofString "row" ∧ ws.length = i + 1 then lvAll ws else none := hro
        rw [mS_cons] at n1
        have wlen := mS_len ws
        refine nx_mk ?_
        refine ⟨.ref p7, rfl, _, rfl, p7, _, rfl, SqL.of hp77, fun p8 hp8 => ?_⟩
        rw [show (1 : Int) = ((1 : Nat) : Int) from rfl, cut_from]
        have sb : Sm Ha (upd Ha p8 (.lst (((a :: ws).map V.str).drop 1))) := Sm.new hp8
        have hp88 : (upd Ha p8 (.lst (((a :: ws).map V.str).drop 1))) p8 = some (.lst (ws.map V.str)) := upd_same
        generalize upd Ha p8 (.lst (((a :: ws).map V.str).drop 1)) = Hb at sb hp88
        refine ⟨p8, rfl, ⟨_, SqL.of hp88⟩, fun D8 hD8 => lc_list (xs := ws.map V.str) (fun j Hz => Hz D8 = some (.lst (((ws.take j).map lvOf).map lvV)) ∧ Sm Hb Hz) ⟨upd_same, Sm.new hD8⟩ (fun j Hz _ hQ => SqL.of (hQ.2 _ _ hp88)) (fun j y Hz hy hQ => ?_) (fun Hc hQ => ?_)⟩
        · obtain ⟨g1, sz⟩ := hQ
          rw [List.getElem?_map] at hy
          obtain ⟨w, hw, rfl⟩ := Option.map_eq_some_iff.mp hy
          have hj := (List.getElem?_eq_some_iff.mp hw).1
          have mw := mS_mem (List.mem_of_getElem? hw)
          refine ⟨rfl, .str w, rfl, w, rfl, by omega, fun Hz' sz' => ?_⟩
          refine ⟨_, sz' _ _ g1, sl_small79 (n := (((ws.take j).map lvOf).map lvV).length + 1) (by rw [List.length_map, List.length_map, List.length_take]; omega), ?_, fun cc o e => by rw [upd_ne (ne_of_none e hD8)]; exact sz' _ _ (sz cc o e)⟩
          rw [upd_same, List.take_add_one, hw, List.map_append, List.map_append]
          rfl
        obtain ⟨g2, sz⟩ := hQ
        rw [List.length_map, List.take_length] at g2
        have syc := sy.trans (sa.trans (sb.trans sz))
        have sc := sa.trans (sb.trans sz)
        show _
        refine nx_mk ?_
        have ret : goR (k + 1) 1 L' [[]] = .inr (i + 1) → ∀ pr, Hc pr = none → pr ≠ sysModules → Q (.ref pr) (upd Hc pr (.lst [.str (Str.ofString "line"), .int ((i + 1 : Nat) : Int)])) := fun e pr hpr hs => by
          refine line (i + 1) Hc pr ?_ (s07.trans syc) hpr hs
          rw [hso, hpl, e]
        refine ⟨.int ((i + 1 : Nat) : Int), rfl, .int ((k : Int) + 1), rfl, _, _, rfl, rfl, _, rfl, ?_⟩
        by_cases hci : k + 1 ≤ i + 1
        · rw [if_pos hci] at hg
          rw [decide_eq_true (show ((i + 1 : Nat) : Int) ≥ ((k : Int) + 1) by omega)]
          refine iteT ?_
          exact ⟨_, rfl, (by show 2 ≤ sizeLine; decide), ret hg⟩
        rw [if_neg hci] at hg
        rw [decide_eq_false (show ¬ ((i + 1 : Nat) : Int) ≥ ((k : Int) + 1) by omega)]
        refine iteF ?_
        refine ⟨.ref p7, rfl, p7, _, 0, _, rfl, rfl, SqL.of ((sb.trans sz) _ _ hp77), atI_nat (j := 0) rfl, rfl, _, rfl, ?_⟩
        by_cases ea : a = Str.ofString "row"
        rotate_left
        · rw [decide_eq_false (fun z => ea (V.str.inj z))]
          refine iteT ?_
          refine ⟨_, rfl, (by show 2 ≤ sizeLine; decide), ret ?_⟩
          rw [hg, hro, if_neg fun z => ea z.1]
        subst ea
        refine iteNS rfl ?_
        refine ⟨.ref D8, rfl, D8, _, rfl, .inl (SqL.of g2), .int ((i + 1 : Nat) : Int), rfl, rfl, _, rfl, ?_⟩
        by_cases en : ws.length = i + 1
        rotate_left
        · rw [decide_eq_false (fun z => en (by have z := V.int.inj z; rw [List.length_map, List.length_map] at z; omega))]
          refine iteT ?_
          refine ⟨_, rfl, (by show 2 ≤ sizeLine; decide), ret ?_⟩
          rw [hg, hro, if_neg fun z => en z.2]
        refine iteNS (by rw [List.length_map, List.length_map, en]) ?_
        rw [if_pos ⟨rfl, en⟩] at hro
        refine ⟨.ref D8, rfl, D8, _, rfl, .inl (SqL.of g2), rfl, flat_lvs _, _, rfl, ?_⟩
        rw [inV_none]
        cases hla : lvAll ws with
        | none =>
          have hn : none ∈ ws.map lvOf := by
            refine Classical.byContradiction fun hn => ?_
            have : ∀ l : List (Option Int), ¬ none ∈ l → ∃ r : List Int, l = r.map some := fun l => by
              induction l with
              | nil => exact fun _ => ⟨[], rfl⟩
              | cons o l ih =>
                intro h
                obtain ⟨r, e⟩ := ih fun z => h (List.mem_cons_of_mem _ z)
                cases o with
                | none => exact absurd List.mem_cons_self h
                | some n => exact ⟨n :: r, by rw [e]; rfl⟩
            obtain ⟨r, e⟩ := this _ hn
            rw [lvAll_iff.mpr e] at hla
            cases hla
          rw [decide_eq_true hn]
          refine iteT ?_
          refine ⟨_, rfl, (by show 2 ≤ sizeLine; decide), ret ?_⟩
          rw [hg, hro, hla]
        | some r =>
        have er := lvAll_iff.mp hla
        have hn : ¬ none ∈ ws.map lvOf := by
          rw [er]
          intro h
          obtain ⟨x, _, e⟩ := List.mem_map.mp h
          cases e
        rw [decide_eq_false hn]
        refine iteF ?_
        show _
        refine nx_mk ?_
        rw [hro, hla] at hg
        have hxc := sc _ _ hx
        refine ⟨.ref rw, rfl, .inl ⟨rfl, _, SqL.of hxc⟩, .ref D8, rfl, D8, _, rfl, .inl ⟨SqL.of g2, fun pt hpt => ?_⟩⟩
        have sd : Sm Hc (upd Hc pt (.tup ((ws.map lvOf).map lvV))) := Sm.new hpt
        have hpt2 : SqT K (upd Hc pt (.tup ((ws.map lvOf).map lvV))) pt (r.map V.int) := by
          rw [er, List.map_map]
          exact SqT.of upd_same
        generalize upd Hc pt (.tup ((ws.map lvOf).map lvV)) = Hd at sd hpt2
        have hxd := sd _ _ hxc
        refine ⟨rw, xs, _, rfl, rfl, hxd, ?_, ?_⟩
        · have := hR.1
          exact sl_small79 (n := xs.length + 1) (by omega)
        refine ⟨_, _, _, xs ++ [.ref pt], rows ++ [r], rfl, upd_same, ((hR.same (sc.trans sd)).snoc ⟨pt, rfl, hpt2⟩).upd hxd, by rw [List.length_append, hrl]; rfl, hg, fun cc o e => by rw [upd_ne (ne_of_none e hrw7)]; exact (syc.trans sd) cc o e⟩
      · obtain ⟨x6, x7, x8, xs, rows, rfl, hx, hR, hrl, hg, sy⟩ := hI
        rw [List.drop_length] at hg
        have hg : goR (k + 1) 1 L' [[]] = .inl rows := hg
        rw [hg] at hpl
        rw [hpl] at hso
        dsimp only at hso
        show _
        have hRl := hR.1
        have ret : sayOf (l0 :: L') rest = .inr (l0 :: L').length → ∀ pr, Hy pr = none → pr ≠ sysModules → Q (.ref pr) (upd Hy pr (.lst [.str (Str.ofString "line"), .int (((l0 :: L').map V.str).length : Int)])) := fun e pr hpr hs => by
          rw [List.length_map]
          exact line _ Hy pr e (s07.trans sy) hpr hs
        refine nx_mk ?_
        refine ⟨.str z, rfl, rfl, _, rfl, ?_⟩
        by_cases hz0 : z.length = 0
        rotate_left
        · rw [decide_eq_false (fun h => hz0 ((ue z).mp (V.str.inj h)))]
          refine iteT ?_
          refine ⟨.ref pL, rfl, pL, _, rfl, .inl (SqL.of (sy _ _ hpL7)), (by show 2 ≤ sizeLine; decide), ret ?_⟩
          rw [hso, if_pos (.inl (by rw [hz, decide_eq_false hz0]; rfl))]
        rw [decide_eq_true (congrArg V.str ((ue z).mpr hz0))]
        refine iteF ?_
        have hr0 : rest = false := by rw [hz, decide_eq_true hz0]; rfl
        refine ⟨.ref rw, rfl, rw, _, rfl, .inl (SqL.of hx), .int ((k : Int) + 1), rfl, _, _, rfl, rfl, _, rfl, ?_⟩
        by_cases hlt : rows.length < k + 1
        · rw [hRl, decide_eq_true (show ((rows.length : Nat) : Int) < ((k : Int) + 1) by omega)]
          refine iteT ?_
          refine ⟨.ref pL, rfl, pL, _, rfl, .inl (SqL.of (sy _ _ hpL7)), (by show 2 ≤ sizeLine; decide), ret ?_⟩
          rw [hso, if_pos (.inr hlt)]
        · rw [hRl, decide_eq_false (show ¬ ((rows.length : Nat) : Int) < ((k : Int) + 1) by omega)]
          refine iteF ?_
          show _
          refine nx_mk ?_
          refine ⟨.ref rw, rfl, rw, _, rfl, .inl ⟨SqL.of hx, fun pt hpt => ?_⟩⟩
          have s4 := Sm.new (o := .tup xs) hpt
          refine ⟨(by show 2 ≤ sizeLine; decide), fun pr hpr hs => ?_⟩
          refine q _ _ ((s07.trans sy).trans (s4.trans (Sm.new hpr))) ?_
          rw [show tellD (.str s) = .list [.str "table", tabD rows] by unfold tellD; rw [hsay, hso, if_neg (by rw [hr0]; simp; omega)]]
          exact .lst upd_same trivial hs (.cons (.str _) (.cons (TT.da ⟨pt, xs, rfl, SqT.of (Sm.new hpr _ _ upd_same), (hR.same s4).same (Sm.new hpr)⟩) .nil))
    | _ =>
      refine iteT ?_
      refine ⟨(by show 2 ≤ sizeLine; decide), fun p hp hs => ?_⟩
      exact q _ _ (Sm.new hp) (.lst upd_same trivial hs (.cons (.str _) (.cons .non .nil)))
end
section
variable {P : Program} {w : World} {K : PySem.W.Frag} {mg : Str → Option Value} {base : Heap}
theorem sl_small78 {n : Nat} (h : n ≤ 1000000) : n ≤ sizeLine := Nat.le_trans h (by decide)
theorem log_lv78 {i : Int} (h0 : 0 ≤ i) (h : i ≤ 1000000000000) : i.natAbs.log2 < 1920 := by
  have : i.natAbs < 2 ^ 64 := Nat.lt_of_lt_of_le (m := 2000000000000) (by omega) (by decide)
  exact Nat.lt_trans (PySem.Flt.log2_lt_of (by decide) this) (by decide)
theorem sapp78 {a b : Str} {m n : Nat} (h : a.length ≤ m) (g : b.length ≤ n) : (a ++ b).length ≤ m + n := by
  rw [TL.len_tl] at h g ⊢
  rw [TL.tl_append, List.length_append]
  omega
theorem row_at78 {H : Hp} {rs : List V} {t : List (List Int)} (hR : Rows K H rs t) {i : Nat} {v : V} (h : (rs.drop 1)[i]? = some v) : ∃ r p, (t.drop 1)[i]? = some r ∧ v = .ref p ∧ SqT K H p (r.map V.int) := by
  rw [List.getElem?_drop] at h
  have hi : 1 + i < t.length := by
    rw [← hR.1]
    exact (List.getElem?_eq_some_iff.mp h).1
  obtain ⟨u, p, hu, rfl, hp⟩ := hR.get hi
  rw [h] at hu
  cases hu
  refine ⟨t.getD (1 + i) [], p, ?_, rfl, hp⟩
  rw [List.getElem?_drop, List.getElem?_eq_getElem hi, List.getD_eq_getElem?_getD, List.getElem?_eq_getElem hi]
  rfl
def sp_ftab78 (K : PySem.W.Frag) : Sp := fun vs H Q _ => ∃ (tv : V) (t : List (List Int)), vs = [tv] ∧ TT K H tv t ∧ WT t ∧ 1 ≤ t.length ∧ t.length ≤ 20 ∧ ∀ (H' : Hp) (s : Str), Sm H H' → TL.tl s = ctab t → Q (.str s) H'
end
section
variable {P : Program} {w : World} {K : PySem.W.Frag} {mg : Str → Option Value} {base : Heap}
/-! ### the law: the text of a table -/
set_option maxHeartbeats 8000000 in
theorem ok_ltab78 {f : Addr} {fd : FuncData} {k : Nat} (F : Fun K "_law_table_text" "_law_table_text" s_L_table_text f fd) (B : Bi mg) : FnOk P w K mg base CX0 (k + 1) f fd ["_law_table_here"] (sp_ftab78 K) := by
  refine F.ok sc_L_table_text (fun vs H Q E h => ?_) (fun cdv A outer s H vs Q E hr h => ?_)
  · obtain ⟨tv, t, rfl, _⟩ := h
    rfl
  · obtain ⟨tv, t, rfl, hT, hW, h1, h20, q⟩ := h
    have nd := sc_L_table_text.nd
    refine ⟨_, (pss_cons (ps_set (i := 1) nd rfl (.inl rfl) (pe_op op_add_str (pe_op op_add_str pe_str (pe_callTy call_str_int (by rfl) B.str (by decide +kernel) (pa_cons (pe_len B (pv 0)) pa_nil))) pe_str))
      (pss_cons (ps_for PassesOwn.never rfl (pi_tup (pe_slice sl_tupW (pv 0) (po_some pe_int) po_none)) (pg_name (i := 2) nd rfl (.inl rfl))
      (pss_cons (ps_set (i := 1) nd rfl (.inl rfl) (pe_op op_add_str (pv 1) pe_str))
      (pss_cons (ps_for PassesOwn.never rfl (pi_tup (pv 2)) (pg_name (i := 3) nd rfl (.inl rfl))
      (pss_one (ps_set (i := 1) nd rfl (.inl rfl) (pe_op op_add_str (pe_op op_add_str (pv 1) pe_str) (pe_callTy call_str_int (by rfl) B.str (by decide +kernel) (pa_cons (pv 3) pa_nil))))))
      (pss_one (ps_set (i := 1) nd rfl (.inl rfl) (pe_op op_add_str (pv 1) pe_str))))))
      (pss_one (ps_ret (pv 1))))), ?_⟩
    obtain ⟨tp, rs, rfl, htp, hR⟩ := id hT
    have hrl : rs.length = t.length := hR.1
    have w1 : (Str.ofString "items ").length ≤ 20 := by decide +kernel
    have w2 : (Str.ofString "\n").length ≤ 1 := by decide +kernel
    have w3 : (Str.ofString "row").length ≤ 20 := by decide +kernel
    have w4 : (Str.ofString " ").length ≤ 1 := by decide +kernel
    have v1 : TL.tl (Str.ofString "items ") = wItems ++ [32] := by decide +kernel
    have v2 : TL.tl (Str.ofString "\n") = [10] := by decide +kernel
    have v3 : TL.tl (Str.ofString "row") = wRow := by decide +kernel
    have v4 : TL.tl (Str.ofString " ") = [32] := by decide +kernel
    have n1 : TL.tl (toString ((rs.length : Nat) : Int) : Str) = TL.numL t.length := by rw [hrl]; exact TL.tl_num _
    have n2 : (toString ((rs.length : Nat) : Int) : Str).length ≤ 13 := by
      rw [TL.len_tl, n1]
      exact Nat.le_trans (TL.numL_len (n := t.length) (k := 2) (by decide) (by omega)) (by decide)
    have fit : ∀ {a b : Str} {m n : Nat}, a.length ≤ m → b.length ≤ n → m + n ≤ 1000000 → a.length + b.length ≤ sizeLine := fun h g z => sl_small78 (by omega)
    refine ⟨.ref tp, rfl, tp, rs, rfl, .inr htp, _, rfl, log_lv78 (by omega) (by omega), _, _, rfl, rfl, fit w1 n2 (by decide), _, _, rfl, rfl, fit (sapp78 w1 n2) w2 (by decide), ?_⟩
    have hL0 : TL.tl ((Str.ofString "items " ++ (toString ((rs.length : Nat) : Int) : Str)) ++ Str.ofString "\n") = cI t.length ++ [10] := by
      rw [TL.tl_append, TL.tl_append, v1, n1, v2]
      show ((wItems ++ [32]) ++ TL.numL t.length) ++ [10] = (wItems ++ (32 :: TL.numL t.length)) ++ [10]
      simp
    generalize (Str.ofString "items " ++ (toString ((rs.length : Nat) : Int) : Str)) ++ Str.ofString "\n" = L0 at hL0
    refine nx_mk ?_
    refine ⟨.ref tp, rfl, _, rfl, tp, rs, rfl, htp, fun sl H1 s1 hsl => ?_⟩
    rw [show (1 : Int) = ((1 : Nat) : Int) from rfl, cut_from] at hsl
    have hdl : (rs.drop 1).length = (t.drop 1).length := by rw [List.length_drop, List.length_drop, hrl]
    have d19 : (t.drop 1).length ≤ 19 := by rw [List.length_drop]; omega
    have rows : ∀ r ∈ t.drop 1, (∀ x ∈ r, LvOk x) ∧ r.length ≤ 20 := fun r hr => by
      have rm := List.mem_of_mem_drop hr
      obtain ⟨k, hk⟩ := List.getElem?_of_mem rm
      have b := (hW k r hk).1
      have c := (List.getElem?_eq_some_iff.mp hk).1
      exact ⟨wt_row hW rm, by omega⟩
    have big : ∀ i, ((cI t.length ++ [10]) ++ ((t.drop 1).take i).flatMap (fun r => cR r ++ [10])).length ≤ 20 + 400 * 19 := fun i => by
      have a := cI_len (n := t.length) h20
      have b := flat_len (f := fun r => cR r ++ [10]) (B := 400) (l := (t.drop 1).take i) fun r hr => by
        obtain ⟨r1, r2⟩ := rows r (List.mem_of_mem_take hr)
        have := cR_len r1
        rw [List.length_append]
        show _ + 1 ≤ 400
        omega
      have c : ((t.drop 1).take i).length ≤ 19 := by rw [List.length_take]; omega
      rw [List.length_append, List.length_append]
      show _ + 1 + _ ≤ _
      omega
    refine ⟨sl, rfl, ⟨_, hsl⟩, for_tup (xs := rs.drop 1) (fun i σ Hy => ∃ s x2 x3, σ = [some (.ref tp), some (.str s), x2, x3] ∧ TL.tl s = (cI t.length ++ [10]) ++ ((t.drop 1).take i).flatMap (fun r => cR r ++ [10]) ∧ SqT K Hy sl (rs.drop 1) ∧ Sm H Hy)
      ⟨L0, none, none, rfl, by rw [hL0]; simp, hsl, s1⟩ (fun i σ Hy _ hI => ?_) (fun i y σ Hy hy hI => ?_) (fun σ Hy hI => ?_)⟩
    · obtain ⟨_, _, _, _, _, h, _⟩ := hI
      exact h
    · obtain ⟨s, x2, x3, rfl, hcd, hsl', sy⟩ := hI
      have hi : i < (t.drop 1).length := by rw [← hdl]; exact (List.getElem?_eq_some_iff.mp hy).1
      obtain ⟨r, p, hr, rfl, hp⟩ := row_at78 hR hy
      obtain ⟨r1, r2⟩ := rows r (List.mem_of_getElem? hr)
      have sl0 : s.length ≤ 20 + 400 * 19 := by rw [TL.len_tl, hcd]; exact big i
      show _
      refine ⟨.str s, rfl, _, _, rfl, rfl, fit sl0 w3 (by decide), ?_⟩
      refine nx_mk ?_
      have hsa : TL.tl (s ++ Str.ofString "row") = ((cI t.length ++ [10]) ++ ((t.drop 1).take i).flatMap (fun r => cR r ++ [10])) ++ wRow := by rw [TL.tl_append, hcd, v3]
      have sla : (s ++ Str.ofString "row").length ≤ 20 + 400 * 19 + 20 := sapp78 sl0 w3
      generalize s ++ Str.ofString "row" = sa at hsa sla
      refine ⟨.ref p, rfl, p, rfl, ⟨_, sy.sqT hp⟩, for_tup (xs := r.map V.int) (fun j σ Hz => ∃ s' x3, σ = [some (.ref tp), some (.str s'), some (.ref p), x3] ∧ TL.tl s' = TL.tl sa ++ (r.take j).flatMap (fun x => 32 :: numI x) ∧ Hz = Hy)
        ⟨sa, x3, rfl, by simp, rfl⟩ (fun j σ Hz _ hI => ?_) (fun j z σ Hz hz hI => ?_) (fun σ Hz hI => ?_)⟩
      · obtain ⟨_, _, _, _, rfl⟩ := hI
        exact sy.sqT hp
      · obtain ⟨s', x3', rfl, hc', rfl⟩ := hI
        rw [List.getElem?_map] at hz
        obtain ⟨x, hx, rfl⟩ := Option.map_eq_some_iff.mp hz
        have lx := r1 x (List.mem_of_getElem? hx)
        have sl' : s'.length ≤ 20 + 400 * 19 + 20 + 14 * 20 := by
          rw [TL.len_tl, hc', List.length_append, ← TL.len_tl]
          have a := flat_len (f := fun x => 32 :: numI x) (B := 14) (l := r.take j) fun y hy => by
            have := numI_len (i := y) (by have := (r1 y (List.mem_of_mem_take hy)).2; omega)
            show _ + 1 ≤ 14
            omega
          have b : (r.take j).length ≤ 20 := by rw [List.length_take]; omega
          omega
        have nx : TL.tl (toString x : Str) = numI x := tl_int (by have := lx.1; omega)
        have nl : (toString x : Str).length ≤ 13 := by rw [TL.len_tl, nx]; exact numI_len (by have := lx.2; omega)
        show _
        refine ⟨.str s', rfl, _, _, rfl, rfl, fit sl' w4 (by decide), .int x, rfl, x, rfl, log_lv78 (by have := lx.1; omega) lx.2, _, _, rfl, rfl, fit (sapp78 sl' w4) nl (by decide), ?_⟩
        refine ⟨_, _, rfl, ?_, rfl⟩
        rw [TL.tl_append, TL.tl_append, hc', v4, nx, List.take_add_one, hx, List.flatMap_append]
        simp
      · obtain ⟨s', x3', rfl, hc', rfl⟩ := hI
        rw [List.length_map, List.take_length] at hc'
        have sl' : s'.length ≤ 20 + 400 * 19 + 20 + 14 * 20 := by
          rw [TL.len_tl, hc', List.length_append, ← TL.len_tl]
          have a := flat_len (f := fun x => 32 :: numI x) (B := 14) (l := r) fun y hy => by
            have := numI_len (i := y) (by have := (r1 y hy).2; omega)
            show _ + 1 ≤ 14
            omega
          omega
        show _
        refine ⟨.str s', rfl, _, _, rfl, rfl, fit sl' w2 (by decide), ?_⟩
        refine ⟨_, _, _, rfl, ?_, hsl', sy⟩
        rw [TL.tl_append, hc', hsa, v2, List.take_add_one, hr, List.flatMap_append]
        simp [cR]
    · obtain ⟨s, x2, x3, rfl, hcd, hsl', sy⟩ := hI
      rw [hdl, List.take_length] at hcd
      show _
      refine ⟨.str s, rfl, q _ s sy ?_⟩
      rw [hcd]
      unfold ctab cLines
      rw [List.flatMap_cons, List.flatMap_map]
end
/-! ### odd values -/
def oddA : List PyData := [.none, .bool true, .bool false, .int 0, .int (-1), .int 1, .int 2, .int 100000000000000000000000000000, .str "", .str "a", .str "-", .tuple [], .list [], .dict [], .tuple [.int 0], .list [.int 0], .tuple [.tuple []], .tuple [.int 1, .int 2], .tuple [.int 0, .int 1]]
def oddB : List PyData := [.tuple [.tuple []], .tuple [.tuple [], .tuple [.int 1]], .tuple [.tuple [], .tuple [.none]], .tuple [.int 5, .int 0, .int 1], .list [.tuple [], .tuple [.int 1]]]
theorem odd_sz : ∀ x ∈ oddA ++ oddB, Sz 100000000000000000000000000000 2 x ∧ wt x ≤ 200 := by
  intro x hx
  simp only [oddA, oddB, List.cons_append, List.nil_append, List.mem_cons, List.not_mem_nil, or_false] at hx
  rcases hx with rfl | rfl | rfl | rfl | rfl | rfl | rfl | rfl | rfl | rfl | rfl | rfl | rfl | rfl | rfl | rfl | rfl | rfl | rfl | rfl | rfl | rfl | rfl | rfl <;> exact ⟨by simp [Sz], by decide +kernel⟩
section
variable {P : Program} {w : World} {K : PySem.W.Frag} {mg : Str → Option Value} {base : Heap}
def sp_oddW (K : PySem.W.Frag) : Sp := fun vs H Q _ => ∃ (d c r : Addr) (n : Nat), vs = [.ref d] ∧ Dr H d c r n ∧ n ≤ 800000 ∧ ∀ (H' : Hp) (v : V) (x : PyData), Da K (okA d r) H' v x → Sz 100000000000000000000000000000 2 x → wt x ≤ 200 → Dr H' d c r (n + 1) → Kp d r H H' → Q v H'
theorem ok_oddW {f fN fO : Addr} {fd fdN fdO : FuncData} (F : Fun K "_law_odd" "_law_odd" s_L_odd f fd) (DN : Df K mg "_law_next" s_L_next fN fdN ["_law_drawn", "_law_many"]) (DO : Df K mg "_law_one" s_L_one fO fdO ["_law_drawn", "_law_items"]) (B : Bi mg) : FnOk P w K mg base CX0 3 f fd ["_law_drawn"] (sp_oddW K) := by
  have GO : FnOk P w K mg base CX0 2 fO fdO ["_law_drawn", "_law_items"] (sp_one K) := ok_one DO.F DN B
  refine F.ok sc_L_odd (fun vs H Q E h => ?_) (fun cdv A outer s H vs Q E hr h => ?_)
  · obtain ⟨d, c, r, n, rfl, _⟩ := h
    rfl
  · obtain ⟨d, c, r, n, rfl, hD, hn, q⟩ := h
    have nd := sc_L_odd.nd
    refine ⟨_, pss_cons (ps_set (i := 1) nd rfl (.inl rfl) (pq_lst (ds := oddA) (pq_cons (pq_of pe_non litW_non) (pq_cons (pq_of pe_bl litW_bl) (pq_cons (pq_of pe_bl litW_bl) (pq_cons (pq_of pe_int litW_int) (pq_cons (pq_neg pe_int) (pq_cons (pq_of pe_int litW_int) (pq_cons (pq_of pe_int litW_int) (pq_cons (pq_pow (i := 10) (j := 29) pe_int pe_int ⟨by decide, by decide, by decide⟩ (by decide)) (pq_cons (pq_of pe_str litW_str) (pq_cons (pq_of pe_str litW_str) (pq_cons (pq_of pe_str litW_str) (pq_cons (pq_tup pq_nil) (pq_cons (pq_lst pq_nil) (pq_cons pq_dct (pq_cons (pq_tup (pq_cons (pq_of pe_int litW_int) pq_nil)) (pq_cons (pq_lst (pq_cons (pq_of pe_int litW_int) pq_nil)) (pq_cons (pq_tup (pq_cons (pq_tup pq_nil) pq_nil)) (pq_cons (pq_tup (pq_cons (pq_of pe_int litW_int) (pq_cons (pq_of pe_int litW_int) pq_nil))) (pq_cons (pq_tup (pq_cons (pq_of pe_int litW_int) (pq_cons (pq_of pe_int litW_int) pq_nil))) pq_nil)))))))))))))))))))))
      (pss_one (ps_ret (pe_cl DO GO hr (pa_cons (pv 0) (pa_cons (pe_op op_cat (pv 1) (pq_lst (ds := oddB) (pq_cons (pq_tup (pq_cons (pq_tup pq_nil) pq_nil)) (pq_cons (pq_tup (pq_cons (pq_tup pq_nil) (pq_cons (pq_tup (pq_cons (pq_of pe_int litW_int) pq_nil)) pq_nil))) (pq_cons (pq_tup (pq_cons (pq_tup pq_nil) (pq_cons (pq_tup (pq_cons (pq_of pe_non litW_non) pq_nil)) pq_nil))) (pq_cons (pq_tup (pq_cons (pq_of pe_int litW_int) (pq_cons (pq_of pe_int litW_int) (pq_cons (pq_of pe_int litW_int) pq_nil)))) (pq_cons (pq_lst (pq_cons (pq_tup pq_nil) (pq_cons (pq_tup (pq_cons (pq_of pe_int litW_int) pq_nil)) pq_nil))) pq_nil))))))) pa_nil))))), ?_⟩
    intro v1 H1 s1 f1
    refine ⟨.ref d, rfl, v1, rfl, ?_⟩
    intro v2 H2 s2 f2
    cases f1 with
    | @lst l1 xs1 _ h1 n1 m1 g1 =>
      cases f2 with
      | @lst l2 xs2 _ h2 n2 m2 g2 =>
        refine ⟨l1, l2, _, _, rfl, rfl, s2 _ _ h1, h2, by rw [g1.len, g2.len]; exact Nat.le_of_lt (small1000 (by decide)), fun p hp => ?_⟩
        have s12 := s1.trans s2
        have s3 := s12.trans (Sm.new (o := .lst (xs1 ++ xs2)) hp)
        have hne := (hD.same s12).ne hp
        have gA : FwAll H (upd H2 p (.lst (xs1 ++ xs2))) (xs1 ++ xs2) (oddA ++ oddB) := ((g1.nw s2.nw).append (g2.from s1)).nw (Sm.new hp).nw
        refine ⟨d, c, r, n, p, _, rfl, hD.same s3, by omega, SqL.of upd_same, hne.1, hne.2.2, by rw [gA.len]; decide, by rw [gA.len]; decide, fun H4 i v hv D4 k4 => ?_⟩
        obtain ⟨x, hx, fx⟩ := gA.at hv
        obtain ⟨z1, z2⟩ := odd_sz x (List.mem_of_getElem? hx)
        exact q _ _ x ((fx.nw (k4.nw hD)).da fun a ha => ⟨(hD.ne ha).1, (hD.ne ha).2.2⟩) z1 z2 D4 (s3.kp.trans k4)
end
/-! ### drawn values, as readings that yield good values -/
theorem tt_gt {K : PySem.W.Frag} {d r : Addr} {H : Hp} {v : V} {t : List (List Int)} (h : TT K H v t) (hW : WT t) (hl : t.length ≤ 12) : GT K d r bigB 1 7000 12 H v := by
  obtain ⟨p, vs, rfl, hs, hR⟩ := h
  obtain ⟨z1, z2⟩ := tab_sz hW hl
  exact ⟨p, vs, t.map rowD, rfl, hs, rows_da hR, z1, z2, by rw [List.length_map]; exact hl⟩
/-- an int between lo and N, drawn -/
def GN (d c r : Addr) (J : L2.St → Hp → Prop) (L k : Nat) (lo N : Int) (te : TE) : Prop :=
  ∀ n σ H (Q : VK), n + k ≤ L → Dr H d c r n → J σ H → (∀ (i : Int) H', Kp d r H H' → Dr H' d c r (n + k) → J σ H' → lo ≤ i → i ≤ N → Q (.int i) H') → te σ H Q
section
variable {K : PySem.W.Frag} {d c r : Addr} {J : L2.St → Hp → Prop} {L B k W m k1 k2 i : Nat} {lo N : Int} {te te' : TE}
theorem gn_int {z : Int} (h1 : lo ≤ z := by decide) (h2 : z ≤ N := by decide) : GN d c r J L 0 lo N (tC (.int z)) := fun n σ H Q _ D j q => q z H (Kp.refl d r H) D j h1 h2
theorem gn_next (hJ : StaJ d c r J) (h0 : ∀ σ H, J σ H → σ[i]? = some (some (.ref d))) (h : GN d c r J L k 1 N te) (hL : L ≤ 900000 := by decide) (hN : N ≤ 1000000000000000000000000000000 := by decide) : GN d c r J L (k + 1) 0 (N - 1) (tCall sp_next [] E0 (tCons (tVar i) (tCons te tNil))) := fun n σ H Q hn D j q =>
  ⟨_, h0 σ H j, h n σ H _ (by omega) D j fun z H1 a1 D1 j1 l1 l2 => ⟨d, c, r, _, z, rfl, D1, by omega, by omega, by omega, fun H2 y hy D2 a2 => q y H2 (a1.trans a2) D2 (hJ _ _ _ _ D1 a2 j1) (by omega) (by omega)⟩⟩
theorem ge_odd (hJ : StaJ d c r J) (h0 : ∀ σ H, J σ H → σ[i]? = some (some (.ref d))) (hL : L ≤ 800000 := by decide) : GE d c r J L 1 (GV K d r bigB 2 200) (tCall (sp_oddW K) [] E0 (tCons (tVar i) tNil)) := fun n σ H Q hn D j q =>
  ⟨_, h0 σ H j, d, c, r, n, rfl, D, by omega, fun H' v x h1 h2 h3 D' a' => q v H' a' D' (hJ _ _ _ _ D a' j) ⟨x, h1, h2, h3⟩⟩
/-- a written list of levels -/
def GL (d c r : Addr) (J : L2.St → Hp → Prop) (gs : List Int) (te : TE) : Prop := ∀ n σ H (Q : VK), Dr H d c r n → J σ H → (∀ g H', Sm H H' → g ≠ d → g ≠ r → H' g = some (.lst (gs.map V.int)) → Q (.ref g) H') → te σ H Q
end
section
variable {K : PySem.W.Frag} {d c r : Addr} {J : L2.St → Hp → Prop} {L k k1 k2 M : Nat} {te te' : TE}
theorem gn_ge {lo N : Int} (h : GN d c r J L k lo N te) : GE d c r J L k (GInt lo N) te := fun n σ H Q hn D j q => h n σ H Q hn D j fun i H' a b e l1 l2 => q _ H' a b e ⟨i, rfl, l1, l2⟩
/-- text[x:], x drawn -/
theorem ge_cutSd {T : Nat} {te2 : TE} {lo N : Int} (h : GE d c r J T k1 (GS M) te) (hl : GN d c r J T k2 lo N te2) (hm : M ≤ 16000000 := by decide) : GE d c r J T (k1 + k2) (GS M) (L2.tSl rSlS te (tPart te2) tNoPart) := fun n σ H Q hn D j q =>
  h n σ H _ (by omega) D j fun v H1 a1 D1 j1 ⟨x, ex, g1⟩ => hl _ σ H1 _ (by omega) D1 j1 fun i H2 a2 D2 j2 _ _ =>
    ⟨i, rfl, x, ex, big16 (Nat.le_trans g1.1 hm), q _ _ (a1.trans a2) (by rw [← Nat.add_assoc]; exact D2) j2 ⟨_, rfl, good_cutS g1 _ _⟩⟩
end
section
variable {K : PySem.W.Frag} {d c r : Addr} {J : L2.St → Hp → Prop} {L k m k1 k2 M N lo : Nat} {G : Hp → V → Prop} {te te' : TE} {ta : TA}
theorem gn_mod3 {T i : Nat} {l : List (Nat × V)} {hs : List (Addr × List Str)} {w : Nat} (h : (i, V.int (w : Int)) ∈ l) : GN d c r (JS d r l hs) T 0 0 2 (tOp (rI (fun _ j => 0 < j) fun i j => .int (i % j)) (tVar i) (tC (.int 3))) := fun n σ H Q hn D j q =>
  ⟨_, j.1 _ h, _, _, rfl, rfl, (by show (0 : Int) < 3; decide), q _ H (Kp.refl d r H) D j (by omega) (by omega)⟩
/-- [.., ..][an int] -/
theorem ge_ixL {T : Nat} {N : Int} (hG : Sta d c r G) (hJ : StaJ d c r J) (h : GA d c r J T k m G ta) (h2 : GN d c r J T k2 0 N te') (hN : N < m := by decide) (hm : m ≤ 1000 := by decide) : GE d c r J T (k + k2) G (tOp (rIxL K) (tLst ta) te') := fun n σ H Q hn D j q =>
  ge_lst hG hJ h hm (by omega) D j fun l xs H1 a1 D1 j1 vl el => h2 _ σ H1 _ (by omega) D1 j1 fun i H2 a2 D2 j2 l1 l2 => by
    have vl2 := vl.kp hG D1 a2
    obtain ⟨x, rfl⟩ : ∃ x : Nat, i = (x : Int) := ⟨i.toNat, by omega⟩
    have hx : x < xs.length := by omega
    exact ⟨l, xs, (x : Int), _, rfl, rfl, SqL.of vl2.at_, atI_nat (j := x) (List.getElem?_eq_getElem hx), q _ H2 (a1.trans a2) (by rw [← Nat.add_assoc]; exact D2) j2 (vl2.good _ (List.getElem_mem hx))⟩
/-- one of a list of texts, drawn -/
theorem ge_one79 {T i : Nat} (h0 : ∀ σ H, J σ H → σ[i]? = some (some (.ref d))) (hJ : StaJ d c r J) (h : GE d c r J T k (GLq d r M lo) te) (hlo : 1 ≤ lo := by decide) (hM : M ≤ 1000 := by decide) (hT : T ≤ 900000 := by decide) : GE d c r J T (k + 1) (GS M) (tCall (sp_one K) [] E0 (tCons (tVar i) (tCons te tNil))) := fun n σ H Q hn D j q =>
  ⟨_, h0 σ H j, h n σ H _ (by omega) D j fun v H1 a1 D1 j1 ⟨p, ws, ev, hp, n1, n2, g, gl⟩ => by
    subst ev
    have x1 := mS_len ws
    have x2 := g.1
    refine ⟨d, c, r, _, p, _, rfl, D1, by omega, SqL.of hp, n1, n2, by rw [List.length_map]; omega, by rw [List.length_map]; omega, fun H2 i v hv D2 a2 => ?_⟩
    rw [List.getElem?_map] at hv
    obtain ⟨w, hw, rfl⟩ := Option.map_eq_some_iff.mp hv
    exact q _ H2 (a1.trans a2) (by rw [← Nat.add_assoc]; exact D2) (hJ _ _ _ _ D1 a2 j1) ⟨w, rfl, g.mem (List.mem_of_getElem? hw)⟩⟩
theorem ge_sgv {T B k1 W : Nat} (h : GE d c r J T k (GS L) te) (hW : 10 * L + 2 ≤ W := by decide) : GE d c r J T k (GV K d r B k1 W) te := h.mono (Nat.le_refl _) fun _ _ ⟨z, ez, g⟩ => ⟨.str z, by rw [ez]; exact .str z, .str, Nat.le_trans (good_wt g) hW⟩
/-- the length of a list at hand, of a text at hand -/
theorem gn_lenL {T i : Nat} {l : List (Nat × V)} {hs : List (Addr × List Str)} {p : Addr} {ws : List Str} (h : (i, V.ref p) ∈ l) (g : (p, ws) ∈ hs) (e : 1 ≤ ws.length) : GN d c r (JS d r l hs) T 0 1 (ws.length : Int) (tCB (fun xs H Q => ∃ p ys, xs = [.ref p] ∧ (SqL K H p ys ∨ SqT K H p ys) ∧ Q (.int ys.length) H) (tCons (tVar i) tNil)) := fun n σ H Q hn D j q =>
  ⟨_, j.1 _ h, p, _, rfl, .inl (SqL.of (j.2 _ g).1), by rw [List.length_map]; exact q (ws.length : Int) H (Kp.refl d r H) D j (by omega) (Int.le_refl _)⟩
theorem gn_lenS1 {T i : Nat} {l : List (Nat × V)} {hs : List (Addr × List Str)} {z : Str} (h : (i, V.str z) ∈ l) (hz : z.length ≤ 15000000) : GN d c r (JS d r l hs) T 0 1 ((z.length : Int) + 1) (tOp (rI0 fun i j => .int (i + j)) (tCB (fun xs H Q => ∃ z : Str, xs = [.str z] ∧ z.length ≤ sizeLine ∧ Q (.int z.length) H) (tCons (tVar i) tNil)) (tC (.int 1))) := fun n σ H Q hn D j q =>
  ⟨_, j.1 _ h, z, rfl, sl_small79 (by omega), _, _, rfl, rfl, q _ H (Kp.refl d r H) D j (by omega) (Int.le_refl _)⟩
end
section
variable {P : Program} {w : World} {K : PySem.W.Frag} {mg : Str → Option Value} {base : Heap}
/-! ### the law: a bent line, a bent text -/
theorem sep32 : TL.tl (Str.ofString " ") = [32] ∧ (Str.ofString " ").cps.all (· < 256) = true := ⟨by decide +kernel, by decide +kernel⟩
theorem sep10 : TL.tl (Str.ofString "\n") = [10] ∧ (Str.ofString "\n").cps.all (· < 256) = true := ⟨by decide +kernel, by decide +kernel⟩
def sp_bw79 (K : PySem.W.Frag) : Sp := fun vs H Q _ => ∃ (d c r : Addr) (n L : Nat) (line : Str), vs = [.ref d, .str line] ∧ Dr H d c r n ∧ n ≤ 700000 ∧ GoodS L line ∧ L ≤ 1200000 ∧ ∀ (H' : Hp) (z : Str), GoodS (4 * L + 300) z → Dr H' d c r (n + 8) → Kp d r H H' → Q (.str z) H'
set_option maxHeartbeats 16000000 in
theorem ok_bw79 {f fN fO : Addr} {fd fdN fdO : FuncData} (F : Fun K "_law_bent_word" "_law_bent_word" s_L_bent_word f fd) (D_L_next : Df K mg "_law_next" s_L_next fN fdN ["_law_drawn", "_law_many"]) (D_L_one : Df K mg "_law_one" s_L_one fO fdO ["_law_drawn", "_law_items"]) (B : Bi mg) : FnOk P w K mg base CX0 3 f fd ["_law_drawn", "_law_line"] (sp_bw79 K) := by
  have G_L_next : FnOk P w K mg base CX0 2 fN fdN ["_law_drawn", "_law_many"] sp_next := (ok_next (k := 0) D_L_next.F B).mono (by decide)
  have G_L_one : FnOk P w K mg base CX0 2 fO fdO ["_law_drawn", "_law_items"] (sp_one K) := ok_one D_L_one.F D_L_next B
  refine F.ok sc_L_bent_word (fun vs H Q E h => ?_) (fun cdv A outer s H vs Q E hr h => ?_)
  · obtain ⟨d, c, r, n, L, line, rfl, _⟩ := h
    rfl
  · obtain ⟨d, c, r, n, L, line, rfl, hD, hn, hg, hL, q⟩ := h
    have nd := sc_L_bent_word.nd
    refine ⟨_, (pss_cons (ps_par (i := 2) (j := 3) rfl nd rfl rfl (by decide) rfl rfl (pa_cons (pe_split (pv 1) pe_str) (pa_cons (pe_cl D_L_next G_L_next hr (pa_cons (pv 0) (pa_cons pe_int pa_nil))) pa_nil)) rfl)
      (pss_cons (ps_par (i := 4) (j := 5) rfl nd rfl rfl (by decide) rfl rfl (pa_cons (pe_cl D_L_next G_L_next hr (pa_cons (pv 0) (pa_cons (pe_len B (pv 2)) pa_nil))) (pa_cons (pe_cl D_L_next G_L_next hr (pa_cons (pv 0) (pa_cons (pe_op op_add (pe_lenS78 B (pv 1)) pe_int) pa_nil))) pa_nil)) rfl)
      (pss_cons (ps_set (i := 6) nd rfl (.inl rfl) (pe_lst (pa_cons pe_str (pa_cons pe_str (pa_cons pe_str (pa_cons pe_str (pa_cons pe_str (pa_cons pe_str (pa_cons pe_str (pa_cons pe_str (pa_cons pe_str (pa_cons pe_str (pa_cons pe_str (pa_cons pe_str (pa_cons pe_str (pa_cons pe_str (pa_cons pe_str (pa_cons pe_str (pa_cons pe_str pa_nil)))))))))))))))))))
      (pss_cons (ps_set (i := 6) nd rfl (.inl rfl) (pe_op op_cat (pv 6) (pe_lst (pa_cons pe_str (pa_cons pe_str (pa_cons (pe_op op_mulS pe_str pe_int) pa_nil))))))
      (pss_cons (ps_set (i := 7) nd rfl (.inl rfl) (pe_ix ix_list (pe_lst (pa_cons (pe_lst (pa_cons (pe_cl D_L_one G_L_one hr (pa_cons (pv 0) (pa_cons (pv 6) pa_nil))) pa_nil)) (pa_cons (pe_lst pa_nil) (pa_cons (pe_op op_rep (pe_slice sl_list (pv 2) (po_some (pv 4)) (po_some (pe_op op_add (pv 4) pe_int))) pe_int) pa_nil)))) (pe_op op_mod (pv 3) pe_int) (fun _ _ => rfl)))
      (pss_cons (ps_if (pt_cmpR op_lt (pv 3) pe_int (nomark _))
      (pss_one (ps_ret (pe_join pe_str (pe_op op_cat (pe_op op_cat (pe_slice sl_list (pv 2) po_none (po_some (pv 4))) (pv 7)) (pe_slice sl_list (pv 2) (po_some (pe_op op_add (pv 4) pe_int)) po_none)))))
      pss_nil)
      (pss_cons (ps_set (i := 8) nd rfl (.inl rfl) (pe_cl D_L_one G_L_one hr (pa_cons (pv 0) (pa_cons (pe_lst (pa_cons pe_str (pa_cons pe_str (pa_cons pe_str (pa_cons pe_str (pa_cons pe_str (pa_cons pe_str (pa_cons pe_str (pa_cons pe_str pa_nil))))))))) pa_nil))))
      (pss_one (ps_ret (pe_op op_add_str (pe_op op_add_str (pe_slice sl_str (pv 1) po_none (po_some (pv 5))) (pe_ix ix_list (pe_lst (pa_cons pe_str (pa_cons (pv 8) pa_nil))) (pe_cl D_L_next G_L_next hr (pa_cons (pv 0) (pa_cons pe_int pa_nil))) (fun _ _ => rfl))) (pe_slice sl_str (pv 1) (po_some (pe_op op_add (pv 5) (pe_cl D_L_next G_L_next hr (pa_cons (pv 0) (pa_cons pe_int pa_nil))))) po_none))))))))))), ?_⟩
    have ll := hg.1
    -- the line, its words
    have j0 : JS d r [(0, .ref d), (1, .str line)] [] (L2.start N_L_bent_word [.ref d, .str line]) H := ⟨fun p hp => by
      rcases List.mem_cons.mp hp with rfl | hp
      · rfl
      · rw [List.mem_singleton.mp hp]
        rfl, fun p hp => absurd hp List.not_mem_nil⟩
    refine sq_par (L := 800000) (G1 := GLq d r (L + 1) 1) (G2 := GInt 0 (6 - 1)) sta_glq (ge_split sep32.1 sep32.2 sta_js (ge_sv (by simp) hg) (by omega)) (gn_ge (gn_next sta_js (fun σ H j => js_at (by simp) j) (gn_int (z := 6) (lo := 1) (N := 6)))) (by omega) hD j0 (fun v1 v2 H1 a1 D1 j1 g1 g2 => ?_)
    obtain ⟨p, ws, rfl, hp, p1, p2, gw, gl⟩ := g1
    obtain ⟨way, rfl, w1, w2⟩ := g2
    obtain ⟨way, rfl⟩ : ∃ x : Nat, way = (x : Int) := ⟨way.toNat, by omega⟩
    have j1 := js_set (i := 3) (v := .int (way : Int)) (js_set (i := 2) (v := .ref p) (js_add j1 hp p1 p2) rfl (by simp)) rfl (by simp)
    refine sq_par (L := 800000) (G1 := GInt 0 ((ws.length : Int) - 1)) (G2 := GInt 0 ((line.length : Int) + 1 - 1)) sta_gint (gn_ge (gn_next sta_js (fun σ H j => js_at (by simp) j) (gn_lenL (p := p) (ws := ws) (by simp) (by simp) gl) (by decide) (by have := mS_len ws; have := gw.1; omega))) (gn_ge (gn_next sta_js (fun σ H j => js_at (by simp) j) (gn_lenS1 (z := line) (by simp) (by omega)) (by decide) (by omega))) (by omega) D1 j1 (fun v1 v2 H2 a2 D2 j2 g1 g2 => ?_)
    obtain ⟨at_, rfl, t1, t2⟩ := g1
    obtain ⟨spot, rfl, u1, u2⟩ := g2
    have j2 := js_set (i := 5) (v := .int spot) (js_set (i := 4) (v := .int at_) j2 rfl (by simp)) rfl (by simp)
    refine sq_set (L := 800000) (ge_strs (L := 5) sta_js (ga_cons sta_gs (ge_str (by decide +kernel)) (ga_cons sta_gs (ge_str (by decide +kernel)) (ga_cons sta_gs (ge_str (by decide +kernel)) (ga_cons sta_gs (ge_str (by decide +kernel)) (ga_cons sta_gs (ge_str (by decide +kernel)) (ga_cons sta_gs (ge_str (by decide +kernel)) (ga_cons sta_gs (ge_str (by decide +kernel)) (ga_cons sta_gs (ge_str (by decide +kernel)) (ga_cons sta_gs (ge_str (by decide +kernel)) (ga_cons sta_gs (ge_str (by decide +kernel)) (ga_cons sta_gs (ge_str (by decide +kernel)) (ga_cons sta_gs (ge_str (by decide +kernel)) (ga_cons sta_gs (ge_str (by decide +kernel)) (ga_cons sta_gs (ge_str (by decide +kernel)) (ga_cons sta_gs (ge_str (by decide +kernel)) (ga_cons sta_gs (ge_str (by decide +kernel)) (ga_cons sta_gs (ge_str (by decide +kernel)) ga_nil)))))))))))))))))) (by omega) D2 j2 (fun v3 H3 a3 D3 j3 g3 => ?_)
    obtain ⟨o1, s1, rfl, ho1, o11, o12, go1, gl1⟩ := g3
    have j3' := js_set (i := 6) (v := .ref o1) (js_add j3 ho1 o11 o12) rfl (by simp)
    refine sq_set (L := 800000) (ge_catL (M1 := 17 * (5 + 1)) (M2 := 3 * (40 + 1)) (lo1 := 17) sta_js (ge_ref (p := o1) (ws := s1) (by simp) (by simp) go1 gl1) (ge_strs (L := 40) sta_js (ga_cons sta_gs (ge_str (by decide +kernel)) (ga_cons sta_gs (ge_str (by decide +kernel)) (ga_cons sta_gs (ge_mulS (M := 1) (q := 40) (good_lit "9" (by decide +kernel)) (by decide) (by decide)) ga_nil))))) (by omega) D3 j3' (fun v4 H4 a4 D4 j4 g4 => ?_)
    obtain ⟨o2, s2, rfl, ho2, o21, o22, go2, gl2⟩ := g4
    have j4 := js_set (i := 6) (v := .ref o2) (js_add (js_sub j4 (l' := [(5, .int spot), (4, .int at_), (3, .int (way : Int)), (2, .ref p), (0, .ref d), (1, .str line)]) (by simp)) ho2 o21 o22) (by first | rfl | (rw [List.length_set]; rfl)) (by simp)
    have hgn : Sta d c r (GLq d r (2 * (L + 1) + 230) 0) := sta_glq
    refine sq_set (L := 800000) (G := GLq d r (2 * (L + 1) + 230) 0) (ge_ixL (N := 2) (m := 3) hgn sta_js (ga_cons hgn (ge_glm (ge_strs (L := 225) sta_js (ga_cons sta_gs (ge_one79 (M := 225) (fun σ H j => js_at (by simp) j) sta_js (ge_ref (p := o2) (ws := s2) (lo := 20) (by simp) (by simp) go2 gl2)) ga_nil)) (by omega) (by decide)) (ga_cons hgn (ge_glm (ge_strs (L := 0) sta_js ga_nil) (by omega) (by decide)) (ga_cons hgn (ge_glm (ge_repL2 sta_js (ge_cutL sta_js (ge_ref (p := p) (ws := ws) (lo := 1) (by simp) (by simp) gw gl) (go_iv (x := at_) (by simp)) (go_ivp (x := at_) (by simp))) (by omega)) (by omega) (by decide)) ga_nil))) (gn_mod3 (w := way) (by simp))) (by omega) D4 j4 (fun v5 H5 a5 D5 j5 g5 => ?_)
    obtain ⟨b, ns, rfl, hb, b1, b2, gb, _⟩ := g5
    have j5 := js_set (i := 7) (v := .ref b) (js_add j5 hb b1 b2) (by first | rfl | (rw [List.length_set]; rfl)) (by simp)
    have fin : ∀ H' z, GoodS (4 * L + 300) z → Dr H' d c r (n + 8) → Kp d r H5 H' → Q (.str z) H' := fun H' z g D' a' => q H' z g D' (a1.trans (a2.trans (a3.trans (a4.trans (a5.trans a')))))
    refine ⟨_, js_at (i := 3) (v := .int (way : Int)) (by simp) j5, _, _, rfl, rfl, _, rfl, ?_⟩
    by_cases hw : (way : Int) < 4
    · rw [decide_eq_true hw]
      refine iteT ?_
      exact ge_joinS (T := 800000) (M := (L + 1) + (2 * (L + 1) + 230) + (L + 1)) sep32.1 (by decide) (ge_catL sta_js (ge_catL sta_js (ge_cutL sta_js (ge_ref (p := p) (ws := ws) (lo := 1) (by simp) (by simp) gw gl) go_none (go_iv (x := at_) (by simp))) (ge_ref (p := b) (ws := ns) (lo := 0) (by simp) (by simp) gb (Nat.zero_le _)) (by omega)) (ge_cutL sta_js (ge_ref (p := p) (ws := ws) (lo := 1) (by simp) (by simp) gw gl) (go_ivp (x := at_) (by simp)) go_none) (by omega)) (by omega) _ _ H5 Q (by omega) D5 j5 fun v H' a' D' _ ⟨z, ez, gz⟩ => by
        rw [ez]
        exact fin H' z (gz.mono (by omega)) (D'.mono (by omega)) a'
    rw [decide_eq_false hw]
    refine iteF ?_
    show _
    refine nx_mk ?_
    refine sq_set (L := 800000) (ge_one79 (M := 8 * (1 + 1)) (lo := 8) (fun σ H j => js_at (by simp) j) sta_js (ge_strs (L := 1) sta_js (ga_cons sta_gs (ge_str (by decide +kernel)) (ga_cons sta_gs (ge_str (by decide +kernel)) (ga_cons sta_gs (ge_str (by decide +kernel)) (ga_cons sta_gs (ge_str (by decide +kernel)) (ga_cons sta_gs (ge_str (by decide +kernel)) (ga_cons sta_gs (ge_str (by decide +kernel)) (ga_cons sta_gs (ge_str (by decide +kernel)) (ga_cons sta_gs (ge_str (by decide +kernel)) ga_nil)))))))))) (by omega) D5 j5 (fun v6 H6 a6 D6 j6 g6 => ?_)
    obtain ⟨sg, rfl, gsg⟩ := g6
    have j6 := js_set (i := 8) (v := .str sg) j6 (by first | rfl | (rw [List.length_set]; rfl)) (by simp)
    have hs16 : Sta d c r (GS 16) := sta_gs
    exact ge_addS (T := 800000) (M1 := L + 16) (M2 := L) (ge_addS (ge_cutS (ge_sv (z := line) (by simp) hg) go_none (go_iv (x := spot) (by simp)) (by omega)) (ge_ixL (N := 2 - 1) (m := 2) hs16 sta_js (ga_cons hs16 (ge_str (by decide +kernel)) (ga_cons hs16 (ge_sv (z := sg) (by simp) gsg) ga_nil)) (gn_next sta_js (fun σ H j => js_at (by simp) j) (gn_int (z := 2) (lo := 1) (N := 2)))) (by omega))
      (ge_cutSd (lo := spot + 0) (N := spot + (2 - 1)) (ge_sv (z := line) (by simp) hg) (fun n σ H Q hn D j q => ⟨_, js_at (i := 5) (v := .int spot) (by simp) j, (gn_next sta_js (fun σ H j => js_at (by simp) j) (gn_int (z := 2) (lo := 1) (N := 2)) : GN d c r _ 800000 (0 + 1) 0 (2 - 1) _) n σ H _ hn D j fun x H1 a1 D1 j1 l1 l2 => ⟨_, _, rfl, rfl, q _ H1 a1 D1 j1 (by omega) (by omega)⟩⟩) (by omega)) (by omega) _ _ H6 Q (by omega) D6 j6 fun v H' a' D' _ ⟨z, ez, gz⟩ => by
        rw [ez]
        exact fin H' z (gz.mono (by omega)) (D'.mono (by omega)) (a6.trans a')
end
section
variable {P : Program} {w : World} {K : PySem.W.Frag} {mg : Str → Option Value} {base : Heap}
theorem ge_bw79 {d c r : Addr} {J : L2.St → Hp → Prop} {T k L i : Nat} {te : TE} (h0 : ∀ σ H, J σ H → σ[i]? = some (some (.ref d))) (hJ : StaJ d c r J) (h : GE d c r J T k (GS L) te) (hL : L ≤ 1200000 := by decide) (hT : T ≤ 700000 := by decide) : GE d c r J T (k + 8) (GS (4 * L + 300)) (tCall (sp_bw79 K) [] E0 (tCons (tVar i) (tCons te tNil))) := fun n σ H Q hn D j q =>
  ⟨_, h0 σ H j, h n σ H _ (by omega) D j fun v H1 a1 D1 j1 ⟨z, ez, g⟩ => ⟨d, c, r, _, L, z, by rw [ez]; rfl, D1, by omega, g, hL, fun H2 z2 g2 D2 a2 => q _ H2 (a1.trans a2) (by rw [← Nat.add_assoc]; exact D2) (hJ _ _ _ _ D1 a2 j1) ⟨z2, rfl, g2⟩⟩⟩
theorem go_ivz {d c r : Addr} {i : Nat} {l : List (Nat × V)} {hs : List (Addr × List Str)} {x z : Int} (h : (i, V.int x) ∈ l) : GO d c r (JS d r l hs) (tPart (tOp (rI0 fun i j => .int (i + j)) (tVar i) (tC (.int z)))) := fun _ σ H Q _ j q => ⟨_, j.1 _ h, x, z, rfl, rfl, _, rfl, q _⟩
def sp_bent79 (K : PySem.W.Frag) : Sp := fun vs H Q _ => ∃ (d c r : Addr) (n L : Nat) (s : Str), vs = [.ref d, .str s] ∧ Dr H d c r n ∧ n ≤ 600000 ∧ GoodS L s ∧ L ≤ 1000000 ∧ ∀ (H' : Hp) (z : Str), GoodS (6 * L + 320) z → Dr H' d c r (n + 10) → Kp d r H H' → Q (.str z) H'
set_option maxHeartbeats 16000000 in
theorem ok_bent79 {f fW fN fO : Addr} {fd fdW fdN fdO : FuncData} (F : Fun K "_law_bent" "_law_bent" s_L_bent f fd) (D_L_bent_word : Df K mg "_law_bent_word" s_L_bent_word fW fdW ["_law_drawn", "_law_line"]) (D_L_next : Df K mg "_law_next" s_L_next fN fdN ["_law_drawn", "_law_many"]) (D_L_one : Df K mg "_law_one" s_L_one fO fdO ["_law_drawn", "_law_items"]) (B : Bi mg) : FnOk P w K mg base CX0 4 f fd ["_law_drawn", "_law_words"] (sp_bent79 K) := by
  have G_L_next : FnOk P w K mg base CX0 3 fN fdN ["_law_drawn", "_law_many"] sp_next := (ok_next (k := 0) D_L_next.F B).mono (by decide)
  have G_L_bent_word : FnOk P w K mg base CX0 3 fW fdW ["_law_drawn", "_law_line"] (sp_bw79 K) := ok_bw79 D_L_bent_word.F D_L_next D_L_one B
  refine F.ok sc_L_bent (fun vs H Q E h => ?_) (fun cdv A outer s H vs Q E hr h => ?_)
  · obtain ⟨d, c, r, n, L, line, rfl, _⟩ := h
    rfl
  · obtain ⟨d, c, r, n, L, s0, rfl, hD, hn, hg, hL, q⟩ := h
    have nd := sc_L_bent.nd
    refine ⟨_, (pss_cons (ps_par (i := 2) (j := 3) rfl nd rfl rfl (by decide) rfl rfl (pa_cons (pe_split (pv 1) pe_str) (pa_cons (pe_cl D_L_next G_L_next hr (pa_cons (pv 0) (pa_cons pe_int pa_nil))) pa_nil)) rfl)
      (pss_cons (ps_set (i := 4) nd rfl (.inl rfl) (pe_cl D_L_next G_L_next hr (pa_cons (pv 0) (pa_cons (pe_len B (pv 2)) pa_nil))))
      (pss_cons (ps_if (pt_cmpR op_lt (pv 3) pe_int (nomark _))
      (pss_one (ps_ret (pe_join pe_str (pe_op op_cat (pe_op op_cat (pe_slice sl_list (pv 2) po_none (po_some (pv 4))) (pe_lst (pa_cons (pe_cl D_L_bent_word G_L_bent_word hr (pa_cons (pv 0) (pa_cons (pe_ix ix_list (pv 2) (pv 4) (fun _ _ => rfl)) pa_nil))) pa_nil))) (pe_slice sl_list (pv 2) (po_some (pe_op op_add (pv 4) pe_int)) po_none)))))
      pss_nil)
      (pss_cons (ps_set (i := 5) nd rfl (.inl rfl) (pe_lst (pa_cons (pe_op op_cat (pe_slice sl_list (pv 2) po_none (po_some (pv 4))) (pe_slice sl_list (pv 2) (po_some (pe_op op_add (pv 4) pe_int)) po_none)) (pa_cons (pe_op op_cat (pe_op op_cat (pe_slice sl_list (pv 2) po_none (po_some (pv 4))) (pe_slice sl_list (pv 2) (po_some (pv 4)) (po_some (pe_op op_add (pv 4) pe_int)))) (pe_slice sl_list (pv 2) (po_some (pv 4)) po_none)) (pa_cons (pe_op op_cat (pe_slice sl_list (pv 2) (po_some (pv 4)) po_none) (pe_slice sl_list (pv 2) po_none (po_some (pv 4)))) pa_nil)))))
      (pss_cons (ps_set (i := 5) nd rfl (.inl rfl) (pe_op op_cat (pv 5) (pe_lst (pa_cons (pe_op op_cat (pe_op op_cat (pe_slice sl_list (pv 2) po_none (po_some (pv 4))) (pe_revL (pe_slice sl_list (pv 2) (po_some (pv 4)) (po_some (pe_op op_add (pv 4) pe_int))))) (pe_slice sl_list (pv 2) (po_some (pe_op op_add (pv 4) pe_int)) po_none)) (pa_cons (pe_op op_cat (pv 2) (pe_lst (pa_cons pe_str pa_nil))) pa_nil)))))
      (pss_one (ps_ret (pe_join pe_str (pe_ix ix_list (pv 5) (pe_op op_sub (pv 3) pe_int) (fun _ _ => rfl)))))))))), ?_⟩
    have ll := hg.1
    have j0 : JS d r [(0, .ref d), (1, .str s0)] [] (L2.start N_L_bent [.ref d, .str s0]) H := ⟨fun p hp => by
      rcases List.mem_cons.mp hp with rfl | hp
      · rfl
      · rw [List.mem_singleton.mp hp]
        rfl, fun p hp => absurd hp List.not_mem_nil⟩
    refine sq_par (L := 700000) (G1 := GLq d r (L + 1) 1) (G2 := GInt 0 (9 - 1)) sta_glq (ge_split sep10.1 sep10.2 sta_js (ge_sv (by simp) hg) (by omega)) (gn_ge (gn_next sta_js (fun σ H j => js_at (by simp) j) (gn_int (z := 9) (lo := 1) (N := 9)))) (by omega) hD j0 (fun v1 v2 H1 a1 D1 j1 g1 g2 => ?_)
    obtain ⟨p, ws, rfl, hp, p1, p2, gw, gl⟩ := g1
    obtain ⟨way, rfl, w1, w2⟩ := g2
    obtain ⟨way, rfl⟩ : ∃ x : Nat, way = (x : Int) := ⟨way.toNat, by omega⟩
    have j1 := js_set (i := 3) (v := .int (way : Int)) (js_set (i := 2) (v := .ref p) (js_add j1 hp p1 p2) rfl (by simp)) rfl (by simp)
    refine sq_set (L := 700000) (G := GInt 0 ((ws.length : Int) - 1)) (gn_ge (gn_next sta_js (fun σ H j => js_at (by simp) j) (gn_lenL (p := p) (ws := ws) (by simp) (by simp) gl) (by decide) (by have := mS_len ws; have := gw.1; omega))) (by omega) D1 j1 (fun v2 H2 a2 D2 j2 g2 => ?_)
    obtain ⟨at_, rfl, t1, t2⟩ := g2
    obtain ⟨at_, rfl⟩ : ∃ x : Nat, at_ = (x : Int) := ⟨at_.toNat, by omega⟩
    have j2 := js_set (i := 4) (v := .int (at_ : Int)) j2 rfl (by simp)
    have fin : ∀ H' z, GoodS (6 * L + 320) z → Dr H' d c r (n + 10) → Kp d r H2 H' → Q (.str z) H' := fun H' z g D' a' => q H' z g D' (a1.trans (a2.trans a'))
    refine ⟨_, js_at (i := 3) (v := .int (way : Int)) (by simp) j2, _, _, rfl, rfl, _, rfl, ?_⟩
    by_cases hw : (way : Int) < 4
    · rw [decide_eq_true hw]
      refine iteT ?_
      exact ge_joinS (T := 700000) (M := (L + 1) + 1 * (4 * (L + 1) + 300 + 1) + (L + 1)) sep10.1 (by decide) (ge_catL sta_js (ge_catL sta_js (ge_cutL sta_js (ge_ref (p := p) (ws := ws) (lo := 1) (by simp) (by simp) gw gl) go_none (go_iv (x := at_) (by simp))) (ge_strs sta_js (ga_cons sta_gs (ge_bw79 (fun σ H j => js_at (by simp) j) sta_js (ge_ixP (p := p) (ws := ws) (at_ := at_) (by simp) (by simp) gw (by omega) (fun σ H Q j q => ⟨_, js_at (i := 4) (v := .int (at_ : Int)) (by simp) j, q⟩)) (by omega)) ga_nil)) (by omega)) (ge_cutL sta_js (ge_ref (p := p) (ws := ws) (lo := 1) (by simp) (by simp) gw gl) (go_ivp (x := at_) (by simp)) go_none) (by omega)) (by omega) _ _ H2 Q (by omega) D2 j2 fun v H' a' D' _ ⟨z, ez, gz⟩ => by
        rw [ez]
        exact fin H' z (gz.mono (by omega)) (D'.mono (by omega)) a'
    rw [decide_eq_false hw]
    refine iteF ?_
    show _
    refine nx_mk ?_
    have hG : Sta d c r (GLq d r (3 * (L + 1) + 2) 0) := sta_glq
    have rw_ : ∀ {T : Nat}, GE d c r (JS d r [(4, .int (at_ : Int)), (3, .int (way : Int)), (2, .ref p), (0, .ref d), (1, .str s0)] [(p, ws)]) T 0 (GLq d r (L + 1) 1) (tVar 2) := ge_ref (p := p) (ws := ws) (lo := 1) (by simp) (by simp) gw gl
    have gi : GO d c r (JS d r [(4, .int (at_ : Int)), (3, .int (way : Int)), (2, .ref p), (0, .ref d), (1, .str s0)] [(p, ws)]) (tPart (tVar 4)) := go_iv (x := at_) (by simp)
    have gz : ∀ {z : Int}, GO d c r (JS d r [(4, .int (at_ : Int)), (3, .int (way : Int)), (2, .ref p), (0, .ref d), (1, .str s0)] [(p, ws)]) (tPart (tOp (rI0 fun i j => .int (i + j)) (tVar 4) (tC (.int z)))) := go_ivz (x := at_) (by simp)
    refine sq_lst (L := 700000) hG sta_js (ga_cons hG (ge_glm (ge_catL sta_js (ge_cutL sta_js rw_ go_none gi) (ge_cutL sta_js rw_ gz go_none) (by omega)) (by omega) (Nat.zero_le _)) (ga_cons hG (ge_glm (ge_catL sta_js (ge_catL sta_js (ge_cutL sta_js rw_ go_none gi) (ge_cutL sta_js rw_ gi gz) (by omega)) (ge_cutL sta_js rw_ gi go_none) (by omega)) (by omega) (Nat.zero_le _)) (ga_cons hG (ge_glm (ge_catL sta_js (ge_cutL sta_js rw_ gi go_none) (ge_cutL sta_js rw_ go_none gi) (by omega)) (by omega) (Nat.zero_le _)) ga_nil))) (by decide) (by omega) D2 j2 (fun l xs H3 a3 D3 j3 vl el => ?_)
    have j3 := js_set (i := 5) (v := .ref l) j3 rfl (by simp)
    have rx : ∀ {T : Nat}, GE d c r (JS d r [(5, .ref l), (4, .int (at_ : Int)), (3, .int (way : Int)), (2, .ref p), (0, .ref d), (1, .str s0)] [(p, ws)]) T 0 (GLq d r (L + 1) 1) (tVar 2) := ge_ref (p := p) (ws := ws) (lo := 1) (by simp) (by simp) gw gl
    have gi3 : GO d c r (JS d r [(5, .ref l), (4, .int (at_ : Int)), (3, .int (way : Int)), (2, .ref p), (0, .ref d), (1, .str s0)] [(p, ws)]) (tPart (tVar 4)) := go_iv (x := at_) (by simp)
    have gz3 : ∀ {z : Int}, GO d c r (JS d r [(5, .ref l), (4, .int (at_ : Int)), (3, .int (way : Int)), (2, .ref p), (0, .ref d), (1, .str s0)] [(p, ws)]) (tPart (tOp (rI0 fun i j => .int (i + j)) (tVar 4) (tC (.int z)))) := go_ivz (x := at_) (by simp)
    refine sq_cat (L := 700000) hG sta_js (ga_cons hG (ge_glm (ge_catL sta_js (ge_catL sta_js (ge_cutL sta_js rx go_none gi3) (ge_revL sta_js (ge_cutL sta_js rx gi3 gz3)) (by omega)) (ge_cutL sta_js rx gz3 go_none) (by omega)) (by omega) (Nat.zero_le _)) (ga_cons hG (ge_glm (ge_catL sta_js rx (ge_strs (L := 0) sta_js (ga_cons sta_gs (ge_str (by decide +kernel)) ga_nil)) (by omega)) (by omega) (Nat.zero_le _)) ga_nil)) (js_at (i := 5) (v := .ref l) (by simp) j3) vl (by omega) (by omega) D3 j3 (fun l' xs' H4 a4 D4 j4 vl' el' => ?_)
    have e5 : xs'.length = 5 := by omega
    refine ⟨⟨_, rfl⟩, .ref l', by first | rfl | (rw [List.getElem?_set_self (by simp [L2.start, N_L_bent])]), .int (way : Int), by have := j4.1 (3, .int (way : Int)) (by simp); rw [List.getElem?_set_ne (by decide)]; exact this, _, _, rfl, rfl, ?_⟩
    have hwx : way - 4 < xs'.length := by omega
    obtain ⟨q', ns, eq', hq, q1, q2, gn, _⟩ := vl'.good _ (List.getElem_mem hwx)
    refine ⟨l', xs', (way : Int) - 4, _, rfl, rfl, SqL.of vl'.at_, by rw [show (way : Int) - 4 = ((way - 4 : Nat) : Int) by omega]; exact atI_nat (j := way - 4) (List.getElem?_eq_getElem hwx), ?_⟩
    rw [eq']
    refine ⟨Str.ofString "\n", q', ns, rfl, rfl, .inl (SqL.of hq), ?_, fin H4 _ ((good_join sep10.1 (by decide) gn).mono (by omega)) (D4.mono (by omega)) (a3.trans a4)⟩
    have yl : (Str.ofString "\n").length = 1 := by decide +kernel
    have x1 := mS_len ns
    have x2 := gn.1
    have x3 := mS_sum ns
    rw [yl]
    omega
theorem ge_bent79 {d c r : Addr} {J : L2.St → Hp → Prop} {T k L i : Nat} {te : TE} (h0 : ∀ σ H, J σ H → σ[i]? = some (some (.ref d))) (hJ : StaJ d c r J) (h : GE d c r J T k (GS L) te) (hL : L ≤ 1000000 := by decide) (hT : T ≤ 600000 := by decide) : GE d c r J T (k + 10) (GS (6 * L + 320)) (tCall (sp_bent79 K) [] E0 (tCons (tVar i) (tCons te tNil))) := fun n σ H Q hn D j q =>
  ⟨_, h0 σ H j, h n σ H _ (by omega) D j fun v H1 a1 D1 j1 ⟨z, ez, g⟩ => ⟨d, c, r, _, L, z, by rw [ez]; rfl, D1, by omega, g, hL, fun H2 z2 g2 D2 a2 => q _ H2 (a1.trans a2) (by rw [← Nat.add_assoc]; exact D2) (hJ _ _ _ _ D1 a2 j1) ⟨z2, rfl, g2⟩⟩⟩
end
section
variable {P : Program} {w : World} {K : PySem.W.Frag} {mg : Str → Option Value} {base : Heap}
/-! ### the law: its values -/
theorem ctab_cps {t : List (List Int)} : ∀ c ∈ ctab t, c < 16 ^ 8 := fun c hc => by
  have low : c < 256 → c < 16 ^ 8 := fun h => Nat.lt_trans h (by decide)
  have num : ∀ n : Nat, c ∈ TL.numL n → c < 256 := fun n h => by
    have := TL.numL_digits n c h
    omega
  have wi : c ∈ wItems → c < 256 := fun h => by
    simp only [wItems, List.mem_cons, List.not_mem_nil, or_false] at h
    omega
  have wr : c ∈ wRow → c < 256 := fun h => by
    simp only [wRow, List.mem_cons, List.not_mem_nil, or_false] at h
    omega
  unfold ctab at hc
  obtain ⟨l, hl, hc⟩ := List.mem_flatMap.mp hc
  rcases List.mem_append.mp hc with hc | hc
  · unfold cLines at hl
    rcases List.mem_cons.mp hl with rfl | hl
    · unfold cI at hc
      rcases List.mem_append.mp hc with hc | hc
      · exact low (wi hc)
      · rcases List.mem_cons.mp hc with rfl | hc
        · exact low (by decide)
        · exact low (num _ hc)
    · obtain ⟨row, _, rfl⟩ := List.mem_map.mp hl
      unfold cR at hc
      rcases List.mem_append.mp hc with hc | hc
      · exact low (wr hc)
      · obtain ⟨x, _, hc⟩ := List.mem_flatMap.mp hc
        rcases List.mem_cons.mp hc with rfl | hc
        · exact low (by decide)
        · exact low (num _ hc)
  · rw [List.mem_singleton.mp hc]
    decide
theorem good_ctab {t : List (List Int)} {s : Str} (hW : WT t) (h1 : 1 ≤ t.length) (h12 : t.length ≤ 12) (hs : TL.tl s = ctab t) : GoodS 4900 s := by
  refine ⟨?_, fun c hc => ctab_cps (t := t) c (by rw [← hs]; exact hc)⟩
  refine Nat.le_trans (m := 20 + 400 * 12) ?_ (by decide)
  rw [TL.len_tl, hs]
  unfold ctab
  refine Nat.le_trans (flat_len (f := fun l => l ++ [10]) (B := 400) fun l hl => ?_) ?_
  · rw [List.length_append]
    show _ + 1 ≤ 400
    rcases List.mem_cons.mp hl with rfl | hl
    · have := cI_len (n := t.length) (by omega)
      omega
    · obtain ⟨r, hr, rfl⟩ := List.mem_map.mp hl
      have rm := List.mem_of_mem_drop hr
      have a := cR_len (wt_row hW rm)
      obtain ⟨k, hk⟩ := List.getElem?_of_mem rm
      have b := (hW k r hk).1
      have c := (List.getElem?_eq_some_iff.mp hk).1
      omega
  · unfold cLines
    rw [List.length_cons, List.length_map, List.length_drop]
    omega
abbrev gv79 (K : PySem.W.Frag) (d r : Addr) : Hp → V → Prop := GV K d r (bigB + 2) 8 12000000
def sp_wr79 (K : PySem.W.Frag) : Sp := fun vs H Q _ => ∃ (d c r : Addr) (n : Nat), vs = [.ref d] ∧ Dr H d c r n ∧ n ≤ 600000 ∧ ∀ (H' : Hp) (l : Addr) (xs : List V), LV d r (gv79 K d r) H' l xs → xs.length = 30 → Dr H' d c r (n + 1) → Kp d r H H' → Q (.ref l) H'
set_option maxHeartbeats 16000000 in
theorem ok_wr79 {f fN fO : Addr} {fd fdN fdO : FuncData} (F : Fun K "_law_written" "_law_written" s_L_written f fd) (D_L_next : Df K mg "_law_next" s_L_next fN fdN ["_law_drawn", "_law_many"]) (D_L_one : Df K mg "_law_one" s_L_one fO fdO ["_law_drawn", "_law_items"]) (B : Bi mg) : FnOk P w K mg base CX0 3 f fd ["_law_drawn"] (sp_wr79 K) := by
  have G_L_one : FnOk P w K mg base CX0 2 fO fdO ["_law_drawn", "_law_items"] (sp_one K) := ok_one D_L_one.F D_L_next B
  refine F.ok sc_L_written (fun vs H Q E h => ?_) (fun cdv A outer s H vs Q E hr h => ?_)
  · obtain ⟨d, c, r, n, rfl, _⟩ := h
    rfl
  · obtain ⟨d, c, r, n, rfl, hD, hn, q⟩ := h
    have nd := sc_L_written.nd
    refine ⟨_, (pss_cons (ps_set (i := 1) nd rfl (.inl rfl) (pe_cl D_L_one G_L_one hr (pa_cons (pv 0) (pa_cons (pe_lst (pa_cons pe_str (pa_cons pe_str (pa_cons pe_str (pa_cons pe_str (pa_cons pe_str (pa_cons pe_str (pa_cons pe_str (pa_cons (pe_op op_mulS pe_str pe_int) pa_nil))))))))) pa_nil))))
      (pss_cons (ps_set (i := 2) nd rfl (.inl rfl) (pe_lst (pa_cons pe_str (pa_cons pe_str (pa_cons pe_str (pa_cons pe_str (pa_cons pe_str (pa_cons pe_str (pa_cons pe_str (pa_cons pe_str pa_nil))))))))))
      (pss_cons (ps_set (i := 2) nd rfl (.inl rfl) (pe_op op_cat (pv 2) (pe_lst (pa_cons pe_str (pa_cons pe_str (pa_cons pe_str (pa_cons pe_str (pa_cons pe_str (pa_cons pe_str pa_nil)))))))))
      (pss_cons (ps_set (i := 2) nd rfl (.inl rfl) (pe_op op_cat (pv 2) (pe_lst (pa_cons (pe_op op_add_str (pe_op op_add_str pe_str (pv 1)) pe_str) (pa_cons pe_str (pa_cons pe_str (pa_cons pe_str pa_nil)))))))
      (pss_cons (ps_set (i := 2) nd rfl (.inl rfl) (pe_op op_cat (pv 2) (pe_lst (pa_cons pe_str (pa_cons pe_str (pa_cons pe_str pa_nil))))))
      (pss_cons (ps_set (i := 2) nd rfl (.inl rfl) (pe_op op_cat (pv 2) (pe_lst (pa_cons pe_str (pa_cons pe_str (pa_cons pe_str (pa_cons pe_str (pa_cons pe_str pa_nil))))))))
      (pss_one (ps_ret (pe_op op_cat (pv 2) (pe_lst (pa_cons (pe_op op_add_str pe_str (pv 1)) (pa_cons (pe_op op_add_str pe_str (pe_op op_mulS pe_str pe_int)) (pa_cons pe_str (pa_cons pe_str pa_nil)))))))))))))), ?_⟩
    have j0 : JS d r [(0, .ref d)] [] (L2.start N_L_written [.ref d]) H := ⟨fun p hp => by
      rw [List.mem_singleton.mp hp]
      rfl, fun p hp => absurd hp List.not_mem_nil⟩
    have hG : Sta d c r (gv79 K d r) := sta_gv
    have st : ∀ {J : L2.St → Hp → Prop} (s : String), (Str.ofString s).length ≤ 100 → GE d c r J 700000 0 (gv79 K d r) (tC (.str (Str.ofString s))) := fun s h => ge_sgv (L := 100) (ge_str h)
    refine sq_set (L := 700000) (ge_one79 (M := 8 * (40 + 1)) (lo := 8) (fun σ H j => js_at (by simp) j) sta_js (ge_strs (L := 40) sta_js (ga_cons sta_gs (ge_str (by decide +kernel)) (ga_cons sta_gs (ge_str (by decide +kernel)) (ga_cons sta_gs (ge_str (by decide +kernel)) (ga_cons sta_gs (ge_str (by decide +kernel)) (ga_cons sta_gs (ge_str (by decide +kernel)) (ga_cons sta_gs (ge_str (by decide +kernel)) (ga_cons sta_gs (ge_str (by decide +kernel)) (ga_cons sta_gs (ge_mulS (M := 1) (q := 40) (good_lit "9" (by decide +kernel)) (by decide) (by decide)) ga_nil)))))))))) (by omega) hD j0 (fun v1 H1 a1 D1 j1 g1 => ?_)
    obtain ⟨lv, rfl, glv⟩ := g1
    have j1 := js_set (i := 1) (v := .str lv) j1 rfl (by simp)
    refine sq_lst (L := 700000) hG sta_js (ga_cons hG (st "" (by decide +kernel)) (ga_cons hG (st "\n" (by decide +kernel)) (ga_cons hG (st "items 1\n" (by decide +kernel)) (ga_cons hG (st "items 1" (by decide +kernel)) (ga_cons hG (st "items 1\n\n" (by decide +kernel)) (ga_cons hG (st "items 1\nrow\n" (by decide +kernel)) (ga_cons hG (st "items 0\n" (by decide +kernel)) (ga_cons hG (st "items 13\n" (by decide +kernel)) ga_nil)))))))) (by decide) (by omega) D1 j1 (fun l2 x2 H2 a2 D2 j2 v2 e2 => ?_)
    have j2 := js_set (i := 2) (v := .ref l2) j2 rfl (by simp)
    refine sq_cat (L := 700000) hG sta_js (ga_cons hG (st "items 01\n" (by decide +kernel)) (ga_cons hG (st "items  2\nrow 5\n" (by decide +kernel)) (ga_cons hG (st "items 2\n" (by decide +kernel)) (ga_cons hG (st "items 2" (by decide +kernel)) (ga_cons hG (st "items 2\nrow 5" (by decide +kernel)) (ga_cons hG (st "items 2\nrow 5\n" (by decide +kernel)) ga_nil)))))) (js_at (i := 2) (v := .ref l2) (by simp) j2) v2 (by omega) (by omega) D2 j2 (fun l3 x3 H3 a3 D3 j3 v3 e3 => ?_)
    have j3 := js_set (i := 2) (v := .ref l3) (js_sub j3 (l' := [(1, .str lv), (0, .ref d)]) (by simp)) (by first | rfl | (rw [List.length_set]; rfl)) (by simp)
    refine sq_cat (L := 700000) hG sta_js (ga_cons hG (ge_sgv (ge_addS (M1 := 20 + 328) (M2 := 5) (ge_addS (M1 := 20) (M2 := 328) (ge_str (s := "items 2\nrow ") (by decide +kernel)) (ge_sv (z := lv) (by simp) glv)) (ge_str (s := "\n") (by decide +kernel)))) (ga_cons hG (st "items 2\nrow 5 5\n" (by decide +kernel)) (ga_cons hG (st "items 2\nrow\n" (by decide +kernel)) (ga_cons hG (st "items 2\nrow 5\n\n" (by decide +kernel)) ga_nil)))) (js_at (i := 2) (v := .ref l3) (by simp) j3) v3 (by omega) (by omega) D3 j3 (fun l4 x4 H4 a4 D4 j4 v4 e4 => ?_)
    have j4 := js_set (i := 2) (v := .ref l4) (js_sub j4 (l' := [(1, .str lv), (0, .ref d)]) (by simp)) (by first | rfl | (rw [List.length_set]; rfl)) (by simp)
    refine sq_cat (L := 700000) hG sta_js (ga_cons hG (st "items 3\nrow 5\n\nrow 1 2\n" (by decide +kernel)) (ga_cons hG (st "items 3\nrow 5\nrow 1 2\nrow 1 2 3" (by decide +kernel)) (ga_cons hG (st "Items 2\nrow 5\n" (by decide +kernel)) ga_nil))) (js_at (i := 2) (v := .ref l4) (by simp) j4) v4 (by omega) (by omega) D4 j4 (fun l5 x5 H5 a5 D5 j5 v5 e5 => ?_)
    have j5 := js_set (i := 2) (v := .ref l5) (js_sub j5 (l' := [(1, .str lv), (0, .ref d)]) (by simp)) (by first | rfl | (rw [List.length_set]; rfl)) (by simp)
    refine sq_cat (L := 700000) hG sta_js (ga_cons hG (st " items 2\nrow 5\n" (by decide +kernel)) (ga_cons hG (st "items 2 \nrow 5\n" (by decide +kernel)) (ga_cons hG (st "items 2\n row 5\n" (by decide +kernel)) (ga_cons hG (st "items 2\nRow 5\n" (by decide +kernel)) (ga_cons hG (st "items two\n" (by decide +kernel)) ga_nil))))) (js_at (i := 2) (v := .ref l5) (by simp) j5) v5 (by omega) (by omega) D5 j5 (fun l6 x6 H6 a6 D6 j6 v6 e6 => ?_)
    have j6 := js_set (i := 2) (v := .ref l6) (js_sub j6 (l' := [(1, .str lv), (0, .ref d)]) (by simp)) (by first | rfl | (rw [List.length_set]; rfl)) (by simp)
    refine rt_cat (L := 700000) hG sta_js (ga_cons hG (ge_sgv (ge_addS (M1 := 30) (M2 := 328) (ge_str (s := "items 3\nrow 5\nrow 1 ") (by decide +kernel)) (ge_sv (z := lv) (by simp) glv))) (ga_cons hG (ge_sgv (ge_addS (M1 := 20) (M2 := 10 * 11) (ge_str (s := "items 12\n") (by decide +kernel)) (ge_mulS (M := 10) (q := 11) (good_lit "row 1\n" (by decide +kernel)) (by decide) (by decide)))) (ga_cons hG (st "items 2\nrow 5 \n" (by decide +kernel)) (ga_cons hG (st "row 5\n" (by decide +kernel)) ga_nil)))) (js_at (i := 2) (v := .ref l6) (by simp) j6) v6 (by omega) (by omega) D6 j6 (fun l7 x7 H7 a7 D7 j7 v7 e7 => ?_)
    exact q H7 l7 x7 v7 (by omega) (D7.mono (by omega)) (a1.trans (a2.trans (a3.trans (a4.trans (a5.trans (a6.trans a7))))))
end
section
variable {P : Program} {w : World} {K : PySem.W.Frag} {mg : Str → Option Value} {base : Heap}
structure ValDefs (K : PySem.W.Frag) (mg : Str → Option Value) : Prop where
  D : DrawDefs K mg
  table : ∃ f fd, Df K mg "_law_table" s_L_table f fd ["_law_drawn", "_law_count_here"]
  text : ∃ f fd, Df K mg "_law_table_text" s_L_table_text f fd ["_law_table_here"]
  written : ∃ f fd, Df K mg "_law_written" s_L_written f fd ["_law_drawn"]
  bent : ∃ f fd, Df K mg "_law_bent" s_L_bent f fd ["_law_drawn", "_law_words"]
  bentw : ∃ f fd, Df K mg "_law_bent_word" s_L_bent_word f fd ["_law_drawn", "_law_line"]
  odd : ∃ f fd, Df K mg "_law_odd" s_L_odd f fd ["_law_drawn"]
def J79 (K : PySem.W.Frag) (d r : Addr) (tv : V) (t : List (List Int)) (ws : Str) (σ : L2.St) (H : Hp) : Prop := JS d r [(0, .ref d), (1, tv), (2, .str ws)] [] σ H ∧ TT K H tv t
theorem sta79 {d c r : Addr} {tv : V} {t : List (List Int)} {ws : Str} : StaJ d c r (J79 K d r tv t ws) := fun n σ H H' D e h => ⟨sta_js n σ H H' D e h.1, h.2.kp D e⟩
def J79b (K : PySem.W.Frag) (d r : Addr) (tv : V) (t : List (List Int)) (ws b : Str) (σ : L2.St) (H : Hp) : Prop := J79 K d r tv t ws σ H ∧ σ[5]? = some (some (.str b))
theorem sta79b {d c r : Addr} {tv : V} {t : List (List Int)} {ws b : Str} : StaJ d c r (J79b K d r tv t ws b) := fun n σ H H' D e h => ⟨sta79 n σ H H' D e h.1, h.2⟩
def sp_values79 (K : PySem.W.Frag) : Sp := fun vs H Q _ => ∃ (d c r : Addr) (n : Nat), vs = [.ref d] ∧ Dr H d c r n ∧ n ≤ 500000 ∧
  ∀ (H' : Hp) (l : Addr) (xs : List V), LV d r (gv79 K d r) H' l xs → xs.length ≤ 500 → Dr H' d c r (n + 1100) → Kp d r H H' → Q (.ref l) H'
set_option maxHeartbeats 16000000 in
theorem ok_values79 {f : Addr} {fd : FuncData} (F : Fun K "_law_values" "_law_values" s_L_values f fd) (T : ValDefs K mg) : FnOk P w K mg base CX0 9 f fd ["_law_drawn"] (sp_values79 K) := by
  have B := T.D.B
  obtain ⟨fN, fdN, D_L_next⟩ := T.D.next
  obtain ⟨fO, fdO, DO⟩ := T.D.one
  obtain ⟨fC, fdC, D_L_count⟩ := T.D.count
  obtain ⟨f2, fd2, D_L_table⟩ := T.table
  obtain ⟨f3, fd3, D_L_table_text⟩ := T.text
  obtain ⟨f4, fd4, D_L_written⟩ := T.written
  obtain ⟨f5, fd5, D_L_bent⟩ := T.bent
  obtain ⟨f6, fd6, D6⟩ := T.bentw
  obtain ⟨f7, fd7, D_L_odd⟩ := T.odd
  have G_L_count : FnOk P w K mg base CX0 8 fC fdC ["_law_drawn", "_law_most"] sp_count := (ok_count D_L_count.F D_L_next B).mono (by decide)
  have G_L_table : FnOk P w K mg base CX0 8 f2 fd2 ["_law_drawn", "_law_count_here"] (sp_table K) := (ok_table D_L_table.F T.D).mono (by decide)
  have G_L_table_text : FnOk P w K mg base CX0 8 f3 fd3 ["_law_table_here"] (sp_ftab78 K) := ok_ltab78 (k := 7) D_L_table_text.F B
  have G_L_written : FnOk P w K mg base CX0 8 f4 fd4 ["_law_drawn"] (sp_wr79 K) := (ok_wr79 D_L_written.F D_L_next DO B).mono (by decide)
  have G_L_bent : FnOk P w K mg base CX0 8 f5 fd5 ["_law_drawn", "_law_words"] (sp_bent79 K) := (ok_bent79 D_L_bent.F D6 D_L_next DO B).mono (by decide)
  have G_L_odd : FnOk P w K mg base CX0 8 f7 fd7 ["_law_drawn"] (sp_oddW K) := (ok_oddW D_L_odd.F D_L_next DO B).mono (by decide)
  refine F.ok sc_L_values (fun vs H Q E h => ?_) (fun cdv A outer s H vs Q E hr h => ?_)
  · obtain ⟨d, c, r, n, rfl, _⟩ := h
    rfl
  · obtain ⟨d, c, r, n, rfl, hD, hn, q⟩ := h
    have nd := sc_L_values.nd
    refine ⟨_, (pss_cons (ps_set (i := 1) nd rfl (.inl rfl) (pe_cl D_L_table G_L_table hr (pa_cons (pv 0) (pa_cons (pe_cl D_L_count G_L_count hr (pa_cons (pv 0) (pa_cons pe_int pa_nil))) pa_nil))))
      (pss_cons (ps_set (i := 2) nd rfl (.inl rfl) (pe_cl D_L_table_text G_L_table_text hr (pa_cons (pv 1) pa_nil)))
      (pss_set1 (i := 3) nd rfl (.inl rfl) (pe1_op op_cat (pe_cl D_L_written G_L_written hr (pa_cons (pv 0) pa_nil)) (pe1_lst (pa1_cons (pv 2) (pa1_here (pe1_op op_add_str (pv 2) pe1_str) (pa_cons (pe_slice sl_str (pv 2) po_none (po_some (pe_un un_neg pe_int))) (pa_cons (pe_op op_add_str (pv 2) pe_str) (pa_cons (pe_op op_add_str (pv 2) pe_str) (pa_cons (pe_op op_add_str pe_str (pv 2)) pa_nil)))))))) 
      (psst_cons (pst_set (i := 3) nd rfl (.inl rfl) (CwR.pet_op op_cat (CwR.PET.of (pv 3)) (pet_lst (pat_cons (CwR.pet_replC (pv 2)) (pat_cons (CwR.pet_replC (pv 2)) (pat_cons (CwR.pet_replC (pv 2)) pat_nil))))))
      (PSsT.of (pss_cons (ps_for PassesOwn.never rfl (pi_range1 rfl B.range (pa_cons pe_int pa_nil)) (pg_name (i := 4) nd rfl (.inl rfl))
      (pss_cons (ps_set (i := 5) nd rfl (.inl rfl) (pe_cl D_L_bent G_L_bent hr (pa_cons (pv 0) (pa_cons (pv 2) pa_nil))))
      (pss_one (ps_set (i := 3) nd rfl (.inl rfl) (pe_op op_cat (pv 3) (pe_lst (pa_cons (pv 5) (pa_cons (pe_cl D_L_bent G_L_bent hr (pa_cons (pv 0) (pa_cons (pv 5) pa_nil))) (pa_cons (pe_cl D_L_bent G_L_bent hr (pa_cons (pv 0) (pa_cons (pe_cl D_L_bent G_L_bent hr (pa_cons (pv 0) (pa_cons (pv 5) pa_nil))) pa_nil))) pa_nil)))))))))
      (pss_one (ps_ret (pe_op op_cat (pv 3) (pe_lst (pa_cons pe_non (pa_cons pe_int (pa_cons pe_bl (pa_cons (pv 1) (pa_cons (pe_lstS (pa_cons (pv 2) pa_nil)) (pa_cons (pe_tup (pa_cons (pv 2) pa_nil)) (pa_cons pq_dct (pa_cons (pe_cl D_L_odd G_L_odd hr (pa_cons (pv 0) pa_nil)) pa_nil)))))))))))))))))), ?_⟩
    refine ⟨.ref d, rfl, .ref d, rfl, d, c, r, _, 12, rfl, hD, by omega, by decide, by decide, fun H2 k2 l2 m2 D2 kp2 => ?_⟩
    refine ⟨d, c, r, _, k2, rfl, D2, by omega, by omega, by omega, fun H3 tv t hT hW htl D3 kp3 => ?_⟩
    have h1 : 1 ≤ t.length := by omega
    have h12 : t.length ≤ 12 := by omega
    refine nx_mk ?_
    refine ⟨tv, rfl, tv, t, rfl, hT, hW, h1, by omega, fun H4 ws s4 hws => ?_⟩
    have gws := good_ctab hW h1 h12 hws
    refine nx_mk ?_
    have hG : Sta d c r (gv79 K d r) := sta_gv
    have D4 := D3.same s4
    have hJ := sta79 (K := K) (d := d) (c := c) (r := r) (tv := tv) (t := t) (ws := ws)
    have hd0 : ∀ σ H, J79 K d r tv t ws σ H → σ[0]? = some (some (.ref d)) := fun σ H j => js_at (i := 0) (v := .ref d) (by simp) j.1
    have jw : ∀ {T}, GE d c r (J79 K d r tv t ws) T 0 (GS 4900) (tVar 2) := ge_var fun σ H j => ⟨_, js_at (i := 2) (v := .str ws) (by simp) j.1, ws, rfl, gws⟩
    have jt : ∀ {T}, GE d c r (J79 K d r tv t ws) T 0 (GT K d r bigB 1 7000 12) (tVar 1) := ge_var fun σ H j => ⟨_, js_at (i := 1) (v := tv) (by simp) j.1, tt_gt j.2 hW h12⟩
    have j4 : ∀ x3 x4 x5, J79 K d r tv t ws [some (.ref d), some tv, some (.str ws), x3, x4, x5] H4 := fun x3 x4 x5 => ⟨⟨fun p hp => by
      simp only [List.mem_cons, List.not_mem_nil, or_false] at hp
      rcases hp with rfl | rfl | rfl <;> rfl, fun p hp => absurd hp List.not_mem_nil⟩, hT.same s4⟩
    -- what is written, and the text itself
    refine ⟨.ref d, rfl, d, c, r, _, rfl, D4, by omega, fun H5 l xs vl el D5 a5 => ?_⟩
    have j5 := hJ _ _ _ _ D4 a5 (j4 none none none)
    refine ge_lst (L := 700000) hG hJ (ga_cons hG (ge_sgv jw) (ga_cons hG (ge_sgv (ge_addS (M2 := 10) jw (ge_str (by decide +kernel)))) (ga_cons hG (ge_sgv (ge_cutS jw go_none go_neg)) (ga_cons hG (ge_sgv (ge_addS (M2 := 10) jw (ge_str (by decide +kernel)))) (ga_cons hG (ge_sgv (ge_addS (M2 := 10) jw (ge_str (by decide +kernel)))) (ga_cons hG (ge_sgv (ge_addS (M1 := 10) (ge_str (by decide +kernel)) jw)) ga_nil)))))) (by decide) (by omega) D5 j5 (fun l2 ys H6 a6 D6 j6 g6 e6 => ?_)
    have vl6 := vl.kp hG D5 a6
    refine ⟨l, l2, xs, ys, rfl, rfl, vl6.at_, g6.at_, by rw [el, e6]; decide, fun p hp => ?_⟩
    have s7 : Sm H6 (upd H6 p (.lst (xs ++ ys))) := Sm.new hp
    have v7 : LV d r (gv79 K d r) (upd H6 p (.lst (xs ++ ys))) p (xs ++ ys) := ⟨upd_same, (D6.ne hp).1, (D6.ne hp).2.2, fun v hv => hG _ _ _ _ D6 s7.kp (by
      rcases List.mem_append.mp hv with hv | hv
      · exact vl6.good v hv
      · exact g6.good v hv)⟩
    have j7 : ∀ x3 x4 x5, J79 K d r tv t ws [some (.ref d), some tv, some (.str ws), x3, x4, x5] (upd H6 p (.lst (xs ++ ys))) := fun x3 x4 x5 => hJ _ _ _ _ D6 s7.kp (hJ _ _ _ _ D5 a6 (hJ _ _ _ _ D4 a5 (j4 x3 x4 x5)))
    have D7 := D6.same s7
    have e7 : (xs ++ ys).length = 36 := by rw [List.length_append, el, e6]
    have a47 : Kp d r H4 (upd H6 p (.lst (xs ++ ys))) := a5.trans (a6.trans s7.kp)
    generalize upd H6 p (.lst (xs ++ ys)) = H7 at v7 j7 D7 a47
    generalize xs ++ ys = zs at v7 e7
    refine gnm ?_
    refine sq_cat (L := 600000) (σ := [some (.ref d), some tv, some (.str ws), some (.ref p), none, none]) hG hJ (ga_cons hG (ge_sgv (ge_replS (N := 2) (by decide +kernel) (good_lit "  " (by decide +kernel)) jw)) (ga_cons hG (ge_sgv (ge_replS (N := 3) (by decide +kernel) (good_lit "row" (by decide +kernel)) jw)) (ga_cons hG (ge_sgv (ge_replS (N := 1) (by decide +kernel) (good_lit " " (by decide +kernel)) jw)) ga_nil))) rfl v7 (by omega) (by omega) D7 (j7 _ _ _) (fun l8 z8 H8 a8 D8 j8 v8 e8 => ?_)
    have e8' : z8.length = 39 := by omega
    refine ⟨12, rfl, by decide, by decide, for_range (n := 12) (fun i σ Hx => ∃ l xs x4 x5, σ = [some (.ref d), some tv, some (.str ws), some (.ref l), x4, x5] ∧ LV d r (gv79 K d r) Hx l xs ∧ xs.length = 39 + 3 * i ∧ Dr Hx d c r (n + 505 + 40 * i) ∧ Kp d r H4 Hx) ⟨l8, z8, none, none, rfl, v8, e8', D8.mono (by omega), a47.trans a8⟩ (fun i σ Hx hi hI => ?_) (fun σ Hx hI => ?_)⟩
    · obtain ⟨l, xs, x4, x5, rfl, vl, el, Dx, ax⟩ := hI
      have jx : ∀ x3 x4 x5, J79 K d r tv t ws [some (.ref d), some tv, some (.str ws), x3, x4, x5] Hx := fun x3 x4 x5 => hJ _ _ _ _ D4 ax (j4 x3 x4 x5)
      refine gnm ?_
      refine sq_set (L := 600000) (σ := [some (.ref d), some tv, some (.str ws), some (.ref l), some (.int (0 + (i : Int))), x5]) (ge_bent79 hd0 hJ jw) (by omega) Dx (jx _ _ _) (fun bv H9 a9 D9 j9 g9 => ?_)
      obtain ⟨b, rfl, gb⟩ := g9
      have hJb := sta79b (K := K) (d := d) (c := c) (r := r) (tv := tv) (t := t) (ws := ws) (b := b)
      have hdb : ∀ σ H, J79b K d r tv t ws b σ H → σ[0]? = some (some (.ref d)) := fun σ H j => hd0 σ H j.1
      have jb : ∀ {T}, GE d c r (J79b K d r tv t ws b) T 0 (GS (6 * 4900 + 320)) (tVar 5) := ge_var fun σ H j => ⟨_, j.2, b, rfl, gb⟩
      refine as_cat (L := 600000) (σ := [some (.ref d), some tv, some (.str ws), some (.ref l), some (.int (0 + (i : Int))), some (.str b)]) hG hJb (ga_cons hG (ge_sgv jb) (ga_cons hG (ge_sgv (ge_bent79 hdb hJb jb)) (ga_cons hG (ge_sgv (ge_bent79 hdb hJb (ge_bent79 hdb hJb jb))) ga_nil))) rfl (vl.kp hG Dx a9) (by omega) (by omega) D9 ⟨hJ _ _ _ _ Dx a9 (jx _ _ _), rfl⟩ (fun l' xs' H10 a10 D10 j10 v10 e10 => ?_)
      exact ⟨l', xs', _, _, rfl, v10, by omega, D10.mono (by omega), ax.trans (a9.trans a10)⟩
    · obtain ⟨l, xs, x4, x5, rfl, vl, el, Dx, ax⟩ := hI
      have jx : J79 K d r tv t ws [some (.ref d), some tv, some (.str ws), some (.ref l), x4, x5] Hx := hJ _ _ _ _ D4 ax (j4 _ _ _)
      refine rt_cat (L := 600000) (σ := [some (.ref d), some tv, some (.str ws), some (.ref l), x4, x5]) hG hJ
        (ga_cons hG (ge_up (ge_non (B := bigB) (k1 := 0) (W := 0))) (ga_cons hG (ge_up (ge_int (B := bigB) (k1 := 0) (W := 0) (by decide))) (ga_cons hG (ge_up (ge_bl (B := bigB) (k1 := 0) (W := 0))) (ga_cons hG (ge_tv jt) (ga_cons hG (ge_up (ge_list hJ (ga_cons sta_gv (ge_sgv (B := bigB) (k1 := 0) (W := 50000) jw) ga_nil))) (ga_cons hG (ge_tv (ge_tup hJ (ga_cons sta_gv (ge_sgv (B := bigB) (k1 := 0) (W := 50000) jw) ga_nil))) (ga_cons hG (ge_lit hJ (by simp [Sz]) (by decide +kernel)) (ga_cons hG (ge_up (ge_odd hJ hd0)) ga_nil)))))))) rfl vl (by omega) (by omega) Dx jx (fun l' xs' H6 a6 D6 j6 v6 e6 => ?_)
      exact q H6 l' xs' v6 (by omega) (D6.mono (by omega)) (kp2.trans (kp3.trans (s4.kp.trans (ax.trans a6))))
end
section
variable {P : Program} {w : World} {K : PySem.W.Frag} {mg : Str → Option Value} {base : Heap}
/-! ### the beginning of a drawing -/
def sp_draws (K : PySem.W.Frag) : Sp := fun vs H Q _ => ∃ (a : Addr) (ns : List Int), vs = [.ref a] ∧ SqL K H a (ns.map V.int) ∧ ns.length ≤ 63 ∧ ∀ (H' : Hp) (d c r : Addr), Sm H H' → Dr H' d c r 0 → H d = none → H c = none → H r = none → Q (.ref d) H'
theorem ok_draws {f : Addr} {fd : FuncData} {k : Nat} (F : Fun K "_law_draws" "_law_draws" s_L_draws f fd) (B : Bi mg) : FnOk P w K mg base CX0 (k + 1) f fd ["_law_script"] (sp_draws K) := by
  refine F.ok sc_L_draws (fun vs H Q E h => ?_) (fun cdv A outer s H vs Q E hr h => ?_)
  · obtain ⟨a, ns, rfl, _⟩ := h
    rfl
  · obtain ⟨a, ns, rfl, hS, h63, q⟩ := h
    have nd := sc_L_draws.nd
    refine ⟨_, pss_cons (ps_set (i := 1) nd rfl (.inl rfl) (pe_op op_cat (pe_callTy call_list_of (by rfl) B.list (by decide +kernel) (pa_cons (pe_slice sl_list (pv 0) po_none (po_some pe_int)) pa_nil))
        (pe_op op_rep (pe_lst (pa_cons pe_int pa_nil)) (pe_callTy call_int1 (by rfl) B.int (by decide +kernel) (pa_cons (pe_cmpR op_eq (pe_len B (pv 0)) pe_int (nomark _)) pa_nil)))))
      (pss_one (ps_ret (pe_lst (pa_cons (pv 1) (pa_cons pe_int (pa_cons
        (pe_lc (own := [("_law_cell", 2)]) (g := gName 2) (tt := tYes) rfl nd (pi_list (pv 1)) (blkOk_by (N := N_L_draws) (sc := defScope s_L_draws) (by decide +kernel))
          (fun _ _ _ _ _ => pg_name (i := 2) nd rfl (.inl rfl)) (fun _ _ _ _ _ => pts_nil)
          (fun _ _ _ _ _ => pe_op op_mul (pv 2) (pe_callTy call_int1 (by rfl) B.int (by decide +kernel) (pa_cons (pe_cmpR op_ge (pv 2) (pe_op op_pow pe_int pe_int) (nomark _)) pa_nil)))) pa_nil)))))), ?_⟩
    refine ⟨.ref a, rfl, 63, rfl, a, _, rfl, hS, fun p1 hp1 => ?_⟩
    have e63 : cutV (ns.map V.int) none (some 63) = ns.map V.int := by
      rw [show (63 : Int) = ((63 : Nat) : Int) from rfl, cut_to]
      exact List.take_of_length_le (by rw [List.length_map]; exact h63)
    rw [e63]
    have s1 : Sm H (upd H p1 (.lst (ns.map V.int))) := Sm.new hp1
    refine ⟨p1, _, rfl, .inl (SqL.of upd_same), fun p2 hp2 => ?_⟩
    have s2 := s1.trans (Sm.new (o := .lst (ns.map V.int)) hp2)
    refine ⟨(by show 1 ≤ sizeLine; decide), fun p3 hp3 => ?_⟩
    have s3 := s2.trans (Sm.new (o := .lst [.int 0]) hp3)
    refine ⟨.ref a, rfl, a, _, rfl, .inl (s3.sqL hS), rfl, .inr ⟨_, rfl, ?_⟩⟩
    obtain ⟨kk, ek, ekk⟩ : ∃ kk : Nat, (if decide (V.int (((ns.map V.int).length : Nat) : Int) = V.int 0) = true then (1 : Int) else 0) = (kk : Int) ∧ (kk = if ns.length = 0 then 1 else 0) := by
      by_cases z : ns.length = 0
      · exact ⟨1, by rw [List.length_map, z]; rfl, by rw [if_pos z]⟩
      · refine ⟨0, ?_, by rw [if_neg z]⟩
        rw [List.length_map, decide_eq_false (fun e => z (by have := V.int.inj e; omega))]
        rfl
    rw [ek]
    have kk1 : kk ≤ 1 := by rw [ekk]; split <;> omega
    refine ⟨p3, _, _, rfl, rfl, upd_same, by omega, by omega, ?_, fun p4 hp4 => ?_⟩
    · show 1 * ((kk : Int).toNat) ≤ sizeLine
      exact Nat.le_of_lt (small1000 (by omega))
    obtain ⟨zs, ez, lz⟩ : ∃ zs : List Int, (List.replicate (kk : Int).toNat [V.int 0]).flatten = zs.map V.int ∧ zs.length = kk := by
      match kk, kk1 with
      | 0, _ => exact ⟨[], rfl, rfl⟩
      | 1, _ => exact ⟨[0], rfl, rfl⟩
    rw [ez]
    have s4 := s3.trans (Sm.new (o := .lst (zs.map V.int)) hp4)
    have h24 : (upd (upd (upd (upd H p1 (.lst (ns.map V.int))) p2 (.lst (ns.map V.int))) p3 (.lst [.int 0])) p4 (.lst (zs.map V.int))) p2 = some (.lst (ns.map V.int)) :=
      Sm.new hp4 _ _ (Sm.new hp3 _ _ upd_same)
    refine ⟨p2, p4, _, _, rfl, rfl, h24, upd_same, ?_, fun c hc => ?_⟩
    · rw [List.length_map, List.length_map]
      exact Nat.le_of_lt (small1000 (by omega))
    rw [← List.map_append]
    obtain ⟨cells, hcells⟩ : ∃ cells, cells = ns ++ zs := ⟨_, rfl⟩
    rw [← hcells]
    have lc : 0 < cells.length ∧ cells.length ≤ 64 := by
      rw [hcells, List.length_append, lz, ekk]
      split <;> omega
    have cH : H c = none := s4.free hc
    have s5 := s4.trans (Sm.new (o := .lst (cells.map V.int)) hc)
    have c5 : (upd (upd (upd (upd (upd H p1 (.lst (ns.map V.int))) p2 (.lst (ns.map V.int))) p3 (.lst [.int 0])) p4 (.lst (zs.map V.int))) c (.lst (cells.map V.int))) c = some (.lst (cells.map V.int)) := upd_same
    generalize upd (upd (upd (upd (upd H p1 (.lst (ns.map V.int))) p2 (.lst (ns.map V.int))) p3 (.lst [.int 0])) p4 (.lst (zs.map V.int))) c (.lst (cells.map V.int)) = H5 at s5 c5
    -- the three
    refine ⟨.ref c, rfl, .ref c, rfl, c, rfl, ⟨_, SqL.of c5⟩, fun r hr0 => lc_list (xs := cells.map V.int) (fun i Hx => ∃ rs : List Int, Hx r = some (.lst (rs.map V.int)) ∧ rs.length = i ∧ (∀ x ∈ rs, 0 ≤ x) ∧ Sm H5 Hx) ⟨[], upd_same, rfl, fun x hx => by simp at hx, Sm.new hr0⟩ (fun i Hx hi hP => ?_) (fun i v Hx hv hP => ?_) (fun Hx hP => ?_)⟩
    · obtain ⟨_, _, _, _, h4⟩ := hP
      exact SqL.of (h4 _ _ c5)
    · obtain ⟨rs, h1, h2, h3, h4⟩ := hP
      have hi : i < cells.length := by
        have := (List.getElem?_eq_some_iff.mp hv).1
        rwa [List.length_map] at this
      obtain ⟨x, rfl⟩ : ∃ x : Int, v = .int x := by
        rw [List.getElem?_map, List.getElem?_eq_getElem hi] at hv
        exact ⟨_, (Option.some.inj hv).symm⟩
      refine ⟨rfl, .int x, rfl, .int x, rfl, _, _, rfl, rfl, ⟨by decide, by decide, by decide⟩, _, _, rfl, rfl, .inr ⟨_, rfl, ?_⟩⟩
      obtain ⟨b, hb, hb2⟩ : ∃ b : Int, (if decide ((10 : Int) ^ (18 : Int).toNat ≤ x) = true then (1 : Int) else 0) = b ∧ ((b = 1 ∧ (10 : Int) ^ (18 : Int).toNat ≤ x) ∨ b = 0) := by
        by_cases z : (10 : Int) ^ (18 : Int).toNat ≤ x
        · exact ⟨1, by rw [decide_eq_true z]; rfl, .inl ⟨rfl, z⟩⟩
        · exact ⟨0, by rw [decide_eq_false z]; rfl, .inr rfl⟩
      rw [hb]
      refine ⟨_, _, rfl, rfl, .inr ⟨?_, ?_⟩, _, h1, by rw [List.length_map]; exact small1000 (by omega), rs ++ [x * b], ?_, by rw [List.length_append, h2]; rfl, ?_, ?_⟩
      · rcases hb2 with ⟨z, _⟩ | z <;> rw [z] <;> decide
      · rcases hb2 with ⟨z, _⟩ | z <;> rw [z] <;> decide
      · rw [upd_same, List.map_append]; rfl
      · intro y hy
        rcases List.mem_append.mp hy with hy | hy
        · exact h3 y hy
        · rw [List.mem_singleton.mp hy]
          rcases hb2 with ⟨z, zx⟩ | z
          · rw [z, Int.mul_one]
            exact Int.le_trans (by decide) zx
          · rw [z, Int.mul_zero]
            exact Int.le_refl 0
      · intro e o he
        rw [upd_ne (ne_of_none he hr0)]
        exact h4 e o he
    · obtain ⟨rs, h1, h2, h3, h4⟩ := hP
      rw [List.length_map] at h2
      refine ⟨(by show 3 ≤ sizeLine; decide), fun d hd0 => ?_⟩
      have c6 := h4 _ _ c5
      have s6 := s5.trans h4
      refine q _ d c r (s6.trans (Sm.new hd0)) ⟨⟨cells, rs, 0, upd_same, Sm.new hd0 _ _ c6, Sm.new hd0 _ _ h1, h2.symm, lc.1, lc.2, Nat.le_refl _, h3⟩, (ne_of_none c6 hd0).symm, (ne_of_none h1 hd0).symm, ne_of_none c5 hr0⟩ (s6.free hd0) cH (s5.free hr0)
end
section
variable {P : Program} {w : World} {K : PySem.W.Frag} {mg : Str → Option Value} {base : Heap}
/-! ### the law -/
theorem goR_le {c : Nat} : ∀ {ls : List Str} {i : Nat} {rows : List (List Int)} {k : Nat}, goR c i ls rows = .inr k → k ≤ i + ls.length
  | [], i, rows, k, h => by cases h
  | l :: ls, i, rows, k, h => by
    rw [goR_step] at h
    split at h
    · obtain rfl := Sum.inr.inj h
      omega
    · split at h
      · obtain rfl := Sum.inr.inj h
        omega
      · have := goR_le h
        rw [List.length_cons]
        omega
theorem sayOf_le {ls : List Str} {rest : Bool} {k : Nat} (h : sayOf ls rest = .inr k) : k ≤ ls.length := by
  unfold sayOf at h
  split at h
  · rename_i e
    obtain rfl := Sum.inr.inj h
    cases ls with
    | nil =>
      obtain rfl := Sum.inr.inj (show Sum.inr 0 = Sum.inr _ from e)
      exact Nat.le_refl _
    | cons l ls =>
      unfold plOf at e
      dsimp only at e
      split at e
      · obtain rfl := Sum.inr.inj e
        exact Nat.zero_le _
      · split at e
        · rename_i e2
          obtain rfl := Sum.inr.inj e
          have := goR_le e2
          rw [List.length_cons]
          omega
        · cases e
  · split at h
    · obtain rfl := Sum.inr.inj h
      exact Nat.le_refl _
    · cases h
theorem lines_len (s : Str) : (linesOf s).length ≤ s.length + 1 := by
  have v1 : TL.tl (Str.ofString "\n") = [10] := by decide +kernel
  have v2 : (Str.ofString "\n").cps.all (· < 256) = true := by decide +kernel
  obtain ⟨m1, m2⟩ := split_ms (s := s) v1 v2
  rcases List.eq_nil_or_concat (Txt.split s (Str.ofString "\n")) with e | ⟨p, z, e⟩
  · exact absurd e m2
  · rw [List.concat_eq_append] at e
    obtain ⟨l1, l2⟩ := lines_snoc e
    rw [e] at m1
    have x1 := mS_len (p ++ [z])
    rw [List.length_append] at x1
    by_cases hz : z.length = 0
    · rw [(l1 hz).1]
      omega
    · rw [(l2 hz).1, List.length_append]
      omega
theorem tell_sz {x : PyData} (h : ∀ s, x = .str s → s.length ≤ 12000000) : Sz (bigB + 2) 3 (tellD x) ∧ wt (tellD x) ≤ 16000000 := by
  have line : ∀ d : PyData, Sz (bigB + 2) 0 d → wt d ≤ 60 → Sz (bigB + 2) 3 (.list [.str "line", d]) ∧ wt (.list [.str "line", d]) ≤ 16000000 := fun d hd hw => by
    refine ⟨fun y hy => ?_, ?_⟩
    · simp only [List.mem_cons, List.not_mem_nil, or_false] at hy
      rcases hy with rfl | rfl
      · exact .str
      · exact hd.mono (Nat.le_refl _) (by decide)
    · have e : wt (.str (Str.ofString "line")) ≤ 10 := by decide +kernel
      have e2 : wt (.list [.str "line", d]) = (wt (.str (Str.ofString "line")) + 2 + (wt d + 2 + 0)) + 3 := rfl
      rw [e2]
      omega
  unfold tellD
  cases e : sayD x with
  | inl t =>
    dsimp only
    cases x with
    | str s =>
      have e' : (match sayOf (linesOf s) (restOf s) with | .inl t => (.inl t : Sum (List (List Int)) (Option Nat)) | .inr k => .inr (some k)) = .inl t := e
      split at e'
      · rename_i u hu
        obtain rfl := Sum.inl.inj e'
        obtain ⟨hW, h1, h12⟩ := sayOf_ok hu
        obtain ⟨z1, z2⟩ := tab_sz hW h12
        refine ⟨fun y hy => ?_, ?_⟩
        · simp only [List.mem_cons, List.not_mem_nil, or_false] at hy
          rcases hy with rfl | rfl
          · exact .str
          · exact fun z hz => (z1 z hz).mono (by omega) (by decide)
        · have e1 : wt (.str (Str.ofString "table")) ≤ 10 := by decide +kernel
          have e2 : wt (.list [.str "table", tabD u]) = (wt (.str (Str.ofString "table")) + 2 + ((wtAll (u.map rowD) + 3) + 2 + 0)) + 3 := rfl
          rw [e2]
          omega
      · cases e'
    | _ => cases e
  | inr k =>
    dsimp only
    cases k with
    | none => exact line .none .none (by decide +kernel)
    | some k =>
      cases x with
      | str s =>
        have e' : (match sayOf (linesOf s) (restOf s) with | .inl t => (.inl t : Sum (List (List Int)) (Option Nat)) | .inr k => .inr (some k)) = .inr (some k) := e
        split at e'
        · cases e'
        · rename_i u hu
          obtain rfl := Option.some.inj (Sum.inr.inj e')
          have a := sayOf_le hu
          have b := lines_len s
          have c := h s rfl
          refine line (.int (u : Int)) (.int ?_) (by simp only [wt]; omega)
          unfold bigB
          omega
      | _ => cases e
structure LawDefs (K : PySem.W.Frag) (mg : Str → Option Value) : Prop where
  V : ValDefs K mg
  told : ∃ C fE CM CI CU, ToldDefs K mg C fE CM CI CU
  draws : ∃ f fd, Df K mg "_law_draws" s_L_draws f fd ["_law_script"]
  values : ∃ f fd, Df K mg "_law_values" s_L_values f fd ["_law_drawn"]
  reading : ∃ f fd, Df K mg "_law_reading" s_L_reading f fd ["_law_value"]
  number : ∃ f fd, Df K mg "_law_number" s_L_number f fd ["_law_word"]
  Ltold : ∃ f fd, Df K mg "_law_told" s_L_told f fd ["_law_value"]
  parse : ∃ f fd, Df K mg "parse_table" s_parse_table f fd ["value"]
def sp_law (K : PySem.W.Frag) : Sp := fun vs H Q _ => ∃ (a : Addr) (ns : List Int), vs = [.ref a] ∧ SqL K H a (ns.map V.int) ∧ ns.length ≤ 63 ∧ ∀ H', Q (.bl true) H'
set_option maxHeartbeats 16000000 in
theorem ok_law {f : Addr} {fd : FuncData} (F : Fun K "law" "law" s_law f fd) (T : LawDefs K mg) : GOk P w K mg base 10 f fd ["_law_script"] (sp_law K) := by
  have B := T.V.D.B
  obtain ⟨C, fE, CM, CI, CU, TT'⟩ := T.told
  obtain ⟨f1, fd1, D_L_draws⟩ := T.draws
  obtain ⟨f2, fd2, D_L_values⟩ := T.values
  obtain ⟨f3, fd3, D_L_reading⟩ := T.reading
  obtain ⟨f4, fd4, D4⟩ := T.number
  obtain ⟨f5, fd5, D_L_told⟩ := T.Ltold
  obtain ⟨f6, fd6, D6⟩ := T.parse
  have G_L_draws : FnOk P w K mg base CX0 9 f1 fd1 ["_law_script"] (sp_draws K) := ok_draws D_L_draws.F B
  have G_L_values : FnOk P w K mg base CX0 9 f2 fd2 ["_law_drawn"] (sp_values79 K) := ok_values79 D_L_values.F T.V
  have G_L_reading : FnOk P w K mg base CX0 9 f3 fd3 ["_law_value"] (sp_read79 K) := ok_read79 (k := 7) D_L_reading.F D4 B
  have G_L_told : FnOk P w K mg base CX0 9 f5 fd5 ["_law_value"] (sp_told79 K) := ok_told79 (k := 3) D_L_told.F D6 TT'
  refine fun_G F sc_law (fun vs H Q E h => ?_) (fun cdv A outer s H vs Q E hg hr h => ?_)
  · obtain ⟨a, ns, rfl, _⟩ := h
    rfl
  · obtain ⟨a, ns, rfl, hS, h63, q⟩ := h
    have nd := sc_law.nd
    refine ⟨_, (pss_cons (ps_set (i := 1) nd rfl (.inl rfl) (pe_cl D_L_draws G_L_draws hr (pa_cons (pv 0) pa_nil)))
      (pss_cons (ps_for PassesOwn.never rfl (pi_range1 rfl B.range (pa_cons pe_int pa_nil)) (pg_name (i := 2) nd rfl (.inl rfl))
      (pss_one (ps_for PassesOwn.never rfl (pi_list (pe_cl D_L_values G_L_values hr (pa_cons (pv 1) pa_nil))) (pg_name (i := 3) nd rfl (.inl rfl))
      (pss_cons (ps_par (i := 4) (j := 5) rfl nd rfl rfl (by decide) rfl rfl (pa_cons (pe_callB (cr_reprZ hg hr) (by rfl) B.repr (by decide +kernel) (pa_cons (pv 3) pa_nil)) (pa_cons (pe_callB (cr_reprZ hg hr) (by rfl) B.repr (by decide +kernel) (pa_cons (pe_cl D_L_reading G_L_reading hr (pa_cons (pv 3) pa_nil)) pa_nil)) pa_nil)) rfl)
      (pss_one (ps_if (PW.pt (pw_or (pt_cmpR op_ne (pe_callB (cr_reprZ hg hr) (by rfl) B.repr (by decide +kernel) (pa_cons (pe_cl D_L_told G_L_told hr (pa_cons (pv 3) pa_nil)) pa_nil)) (pv 5) (nomark _)) (pw_or (pt_cmpR op_ne (pe_callB (cr_reprZ hg hr) (by rfl) B.repr (by decide +kernel) (pa_cons (pe_cl D_L_told G_L_told hr (pa_cons (pv 3) pa_nil)) pa_nil)) (pv 5) (nomark _)) (pw_or1 (pt_cmpR op_ne (pe_callB (cr_reprZ hg hr) (by rfl) B.repr (by decide +kernel) (pa_cons (pv 3) pa_nil)) (pv 4) (nomark _))))))
      (pss_one (ps_ret pe_bl))
      pss_nil))))))
      (pss_one (ps_ret pe_bl)))), ?_⟩
    refine ⟨.ref a, rfl, a, ns, rfl, hS, h63, fun H1 d c r s1 Dr1 _ _ _ => ?_⟩
    refine ⟨3, rfl, by decide, by decide, for_range (n := 3) (fun i σ Hx => ∃ x2 x3 x4 x5, σ = [some (.ref a), some (.ref d), x2, x3, x4, x5] ∧ Dr Hx d c r (1200 * i)) ⟨none, none, none, none, rfl, Dr1⟩ (fun i σ Hx hi hI => ?_) (fun σ Hx hI => ?_)⟩
    · obtain ⟨x2, x3, x4, x5, rfl, hD⟩ := hI
      show _
      refine ⟨.ref d, rfl, d, c, r, _, rfl, hD, by omega, fun H4 l xs vl xl D4 kp4 => ?_⟩
      refine ⟨l, rfl, ⟨_, SqL.of vl.at_⟩, for_list (xs := xs) (fun m σ Hz => ∃ x3 x4 x5, σ = [some (.ref a), some (.ref d), some (.int (0 + (i : Int))), x3, x4, x5] ∧ Sm H4 Hz) ⟨_, _, _, rfl, Sm.refl _⟩ (fun m σ Hz _ hI => ?_) (fun m v σ Hz hv hI => ?_) (fun σ Hz hI => ?_)⟩
      · obtain ⟨_, _, _, _, sz⟩ := hI
        exact SqL.of (sz _ _ vl.at_)
      · obtain ⟨x3, x4, x5, rfl, sz⟩ := hI
        obtain ⟨x, da, szx, wx⟩ := vl.good v (List.mem_of_getElem? hv)
        have hlen : ∀ s, x = .str s → s.length ≤ 12000000 := fun s e => by
          subst e
          exact Nat.le_trans (len_wt s) wx
        obtain ⟨e1, e2, e3⟩ := showZ szx (by omega)
        obtain ⟨y1, y2⟩ := tell_sz hlen
        obtain ⟨g1, g2, g3⟩ := showZ y1 y2
        refine gnm ?_
        refine ⟨v, rfl, okA d r, _, _, rfl, da.same sz, e1, e2, e3, ?_⟩
        refine ⟨v, rfl, okA d r, v, x, rfl, da.same sz, hlen, fun Ha p sa da1 => ?_⟩
        refine ⟨allOk, _, _, rfl, da1, g1, g2, g3, ?_⟩
        refine ⟨_, _, rfl, ?_⟩
        refine nx_mk ?_
        have sza := sz.trans sa
        refine ⟨v, rfl, okA d r, v, x, rfl, da.same sza, hlen, fun Hb p2 sb db => ?_⟩
        refine ⟨allOk, _, _, rfl, db, g1, g2, g3, _, rfl, rfl, _, rfl, iteNS rfl ?_⟩
        have szb := sza.trans sb
        refine ⟨v, rfl, okA d r, v, x, rfl, da.same szb, hlen, fun Hc p3 sc dc => ?_⟩
        refine ⟨allOk, _, _, rfl, dc, g1, g2, g3, _, rfl, rfl, _, rfl, iteNS rfl ?_⟩
        have szc := szb.trans sc
        refine ⟨v, rfl, okA d r, _, _, rfl, da.same szc, e1, e2, e3, _, rfl, rfl, _, rfl, iteNS rfl ?_⟩
        exact ⟨_, _, _, rfl, szc⟩
      · obtain ⟨x3, x4, x5, rfl, sz⟩ := hI
        exact ⟨_, _, _, _, rfl, (D4.same sz).mono (by omega)⟩
    · obtain ⟨x2, x3, x4, x5, rfl, _⟩ := hI
      exact q _
end
/-! ### what the top has written -/
theorem df_mk {K : PySem.W.Frag} {h : Heap} {mg : Str → Option Value} {x : Str} {st : Stmt} {f : Addr} {od an : Option Addr} {sl : Array (Option Value)} {oc kV dc pm cd ct : Value} {ps : List Str} (X : K.In h) (G : h.Ns mainGlobals mg)
    (a : PySem.W.nsIn K mainGlobals x = some (some (.ref f))) (l : K.lookup f = some ⟨oc, od, .func (PySem.W.fnOf x x (defArgs st) (defBody st) (defScope st) .none kV dc pm an cd ct), sl⟩) (c : PySem.W.codeIn K cd x = true) (k : PySem.W.keepIn K (.ref f) = true)
    (b : ∀ (kV doc pm : Value) (an : Option Addr) (cdv ct : Value) (us : List Value), us.length = ps.length → bindArgs (PySem.W.fnOf x x (defArgs st) (defBody st) (defScope st) .none kV doc pm an cdv ct) ⟨us, []⟩ = pure (ps.zip us)) :
    Df K mg x st f (PySem.W.fnOf x x (defArgs st) (defBody st) (defScope st) .none kV dc pm an cd ct) ps := ⟨fun_mk l c k, (fun_mk l c k).binds b, PySem.W.mg_of X G a⟩
theorem all_mk {l : PySem.W.OpenLaw} {w : World} {K : PySem.W.Frag} {h : Heap} {mg : Str → Option Value} {fa : Addr} (X : K.In h) (G : h.Ns mainGlobals mg) (hfa : mg "law" = some (.ref fa))
    {f1 : Addr} {od1 an1 : Option Addr} {sl1 : Array (Option Value)} {oc1 kV1 dc1 pm1 cd1 ct1 : Value} (a1 : PySem.W.nsIn K mainGlobals "is_whole" = some (some (.ref f1))) (l1 : K.lookup f1 = some ⟨oc1, od1, .func (PySem.W.fnOf "is_whole" "is_whole" (defArgs s_is_whole) (defBody s_is_whole) (defScope s_is_whole) .none kV1 dc1 pm1 an1 cd1 ct1), sl1⟩) (c1 : PySem.W.codeIn K cd1 "is_whole" = true) (k1 : PySem.W.keepIn K (.ref f1) = true)
    {f2 : Addr} {od2 an2 : Option Addr} {sl2 : Array (Option Value)} {oc2 kV2 dc2 pm2 cd2 ct2 : Value} (a2 : PySem.W.nsIn K mainGlobals "is_level" = some (some (.ref f2))) (l2 : K.lookup f2 = some ⟨oc2, od2, .func (PySem.W.fnOf "is_level" "is_level" (defArgs s_is_level) (defBody s_is_level) (defScope s_is_level) .none kV2 dc2 pm2 an2 cd2 ct2), sl2⟩) (c2 : PySem.W.codeIn K cd2 "is_level" = true) (k2 : PySem.W.keepIn K (.ref f2) = true)
    {f3 : Addr} {od3 an3 : Option Addr} {sl3 : Array (Option Value)} {oc3 kV3 dc3 pm3 cd3 ct3 : Value} (a3 : PySem.W.nsIn K mainGlobals "number_of" = some (some (.ref f3))) (l3 : K.lookup f3 = some ⟨oc3, od3, .func (PySem.W.fnOf "number_of" "number_of" (defArgs s_number_of) (defBody s_number_of) (defScope s_number_of) .none kV3 dc3 pm3 an3 cd3 ct3), sl3⟩) (c3 : PySem.W.codeIn K cd3 "number_of" = true) (k3 : PySem.W.keepIn K (.ref f3) = true)
    {f4 : Addr} {od4 an4 : Option Addr} {sl4 : Array (Option Value)} {oc4 kV4 dc4 pm4 cd4 ct4 : Value} (a4 : PySem.W.nsIn K mainGlobals "count_in" = some (some (.ref f4))) (l4 : K.lookup f4 = some ⟨oc4, od4, .func (PySem.W.fnOf "count_in" "count_in" (defArgs s_count_in) (defBody s_count_in) (defScope s_count_in) .none kV4 dc4 pm4 an4 cd4 ct4), sl4⟩) (c4 : PySem.W.codeIn K cd4 "count_in" = true) (k4 : PySem.W.keepIn K (.ref f4) = true)
    {f5 : Addr} {od5 an5 : Option Addr} {sl5 : Array (Option Value)} {oc5 kV5 dc5 pm5 cd5 ct5 : Value} (a5 : PySem.W.nsIn K mainGlobals "row_in" = some (some (.ref f5))) (l5 : K.lookup f5 = some ⟨oc5, od5, .func (PySem.W.fnOf "row_in" "row_in" (defArgs s_row_in) (defBody s_row_in) (defScope s_row_in) .none kV5 dc5 pm5 an5 cd5 ct5), sl5⟩) (c5 : PySem.W.codeIn K cd5 "row_in" = true) (k5 : PySem.W.keepIn K (.ref f5) = true)
    {f6 : Addr} {od6 an6 : Option Addr} {sl6 : Array (Option Value)} {oc6 kV6 dc6 pm6 cd6 ct6 : Value} (a6 : PySem.W.nsIn K mainGlobals "parse_lines" = some (some (.ref f6))) (l6 : K.lookup f6 = some ⟨oc6, od6, .func (PySem.W.fnOf "parse_lines" "parse_lines" (defArgs s_parse_lines) (defBody s_parse_lines) (defScope s_parse_lines) .none kV6 dc6 pm6 an6 cd6 ct6), sl6⟩) (c6 : PySem.W.codeIn K cd6 "parse_lines" = true) (k6 : PySem.W.keepIn K (.ref f6) = true)
    {f7 : Addr} {od7 an7 : Option Addr} {sl7 : Array (Option Value)} {oc7 kV7 dc7 pm7 cd7 ct7 : Value} (a7 : PySem.W.nsIn K mainGlobals "parse_table" = some (some (.ref f7))) (l7 : K.lookup f7 = some ⟨oc7, od7, .func (PySem.W.fnOf "parse_table" "parse_table" (defArgs s_parse_table) (defBody s_parse_table) (defScope s_parse_table) .none kV7 dc7 pm7 an7 cd7 ct7), sl7⟩) (c7 : PySem.W.codeIn K cd7 "parse_table" = true) (k7 : PySem.W.keepIn K (.ref f7) = true)
    {f8 : Addr} {od8 an8 : Option Addr} {sl8 : Array (Option Value)} {oc8 kV8 dc8 pm8 cd8 ct8 : Value} (a8 : PySem.W.nsIn K mainGlobals "_law_draws" = some (some (.ref f8))) (l8 : K.lookup f8 = some ⟨oc8, od8, .func (PySem.W.fnOf "_law_draws" "_law_draws" (defArgs s_L_draws) (defBody s_L_draws) (defScope s_L_draws) .none kV8 dc8 pm8 an8 cd8 ct8), sl8⟩) (c8 : PySem.W.codeIn K cd8 "_law_draws" = true) (k8 : PySem.W.keepIn K (.ref f8) = true)
    {f9 : Addr} {od9 an9 : Option Addr} {sl9 : Array (Option Value)} {oc9 kV9 dc9 pm9 cd9 ct9 : Value} (a9 : PySem.W.nsIn K mainGlobals "_law_next" = some (some (.ref f9))) (l9 : K.lookup f9 = some ⟨oc9, od9, .func (PySem.W.fnOf "_law_next" "_law_next" (defArgs s_L_next) (defBody s_L_next) (defScope s_L_next) .none kV9 dc9 pm9 an9 cd9 ct9), sl9⟩) (c9 : PySem.W.codeIn K cd9 "_law_next" = true) (k9 : PySem.W.keepIn K (.ref f9) = true)
    {f10 : Addr} {od10 an10 : Option Addr} {sl10 : Array (Option Value)} {oc10 kV10 dc10 pm10 cd10 ct10 : Value} (a10 : PySem.W.nsIn K mainGlobals "_law_one" = some (some (.ref f10))) (l10 : K.lookup f10 = some ⟨oc10, od10, .func (PySem.W.fnOf "_law_one" "_law_one" (defArgs s_L_one) (defBody s_L_one) (defScope s_L_one) .none kV10 dc10 pm10 an10 cd10 ct10), sl10⟩) (c10 : PySem.W.codeIn K cd10 "_law_one" = true) (k10 : PySem.W.keepIn K (.ref f10) = true)
    {f11 : Addr} {od11 an11 : Option Addr} {sl11 : Array (Option Value)} {oc11 kV11 dc11 pm11 cd11 ct11 : Value} (a11 : PySem.W.nsIn K mainGlobals "_law_odd" = some (some (.ref f11))) (l11 : K.lookup f11 = some ⟨oc11, od11, .func (PySem.W.fnOf "_law_odd" "_law_odd" (defArgs s_L_odd) (defBody s_L_odd) (defScope s_L_odd) .none kV11 dc11 pm11 an11 cd11 ct11), sl11⟩) (c11 : PySem.W.codeIn K cd11 "_law_odd" = true) (k11 : PySem.W.keepIn K (.ref f11) = true)
    {f12 : Addr} {od12 an12 : Option Addr} {sl12 : Array (Option Value)} {oc12 kV12 dc12 pm12 cd12 ct12 : Value} (a12 : PySem.W.nsIn K mainGlobals "_law_count" = some (some (.ref f12))) (l12 : K.lookup f12 = some ⟨oc12, od12, .func (PySem.W.fnOf "_law_count" "_law_count" (defArgs s_L_count) (defBody s_L_count) (defScope s_L_count) .none kV12 dc12 pm12 an12 cd12 ct12), sl12⟩) (c12 : PySem.W.codeIn K cd12 "_law_count" = true) (k12 : PySem.W.keepIn K (.ref f12) = true)
    {f13 : Addr} {od13 an13 : Option Addr} {sl13 : Array (Option Value)} {oc13 kV13 dc13 pm13 cd13 ct13 : Value} (a13 : PySem.W.nsIn K mainGlobals "_law_grades" = some (some (.ref f13))) (l13 : K.lookup f13 = some ⟨oc13, od13, .func (PySem.W.fnOf "_law_grades" "_law_grades" (defArgs s_L_grades) (defBody s_L_grades) (defScope s_L_grades) .none kV13 dc13 pm13 an13 cd13 ct13), sl13⟩) (c13 : PySem.W.codeIn K cd13 "_law_grades" = true) (k13 : PySem.W.keepIn K (.ref f13) = true)
    {f14 : Addr} {od14 an14 : Option Addr} {sl14 : Array (Option Value)} {oc14 kV14 dc14 pm14 cd14 ct14 : Value} (a14 : PySem.W.nsIn K mainGlobals "_law_level" = some (some (.ref f14))) (l14 : K.lookup f14 = some ⟨oc14, od14, .func (PySem.W.fnOf "_law_level" "_law_level" (defArgs s_L_level) (defBody s_L_level) (defScope s_L_level) .none kV14 dc14 pm14 an14 cd14 ct14), sl14⟩) (c14 : PySem.W.codeIn K cd14 "_law_level" = true) (k14 : PySem.W.keepIn K (.ref f14) = true)
    {f15 : Addr} {od15 an15 : Option Addr} {sl15 : Array (Option Value)} {oc15 kV15 dc15 pm15 cd15 ct15 : Value} (a15 : PySem.W.nsIn K mainGlobals "_law_nested" = some (some (.ref f15))) (l15 : K.lookup f15 = some ⟨oc15, od15, .func (PySem.W.fnOf "_law_nested" "_law_nested" (defArgs s_L_nested) (defBody s_L_nested) (defScope s_L_nested) .none kV15 dc15 pm15 an15 cd15 ct15), sl15⟩) (c15 : PySem.W.codeIn K cd15 "_law_nested" = true) (k15 : PySem.W.keepIn K (.ref f15) = true)
    {f16 : Addr} {od16 an16 : Option Addr} {sl16 : Array (Option Value)} {oc16 kV16 dc16 pm16 cd16 ct16 : Value} (a16 : PySem.W.nsIn K mainGlobals "_law_raised" = some (some (.ref f16))) (l16 : K.lookup f16 = some ⟨oc16, od16, .func (PySem.W.fnOf "_law_raised" "_law_raised" (defArgs s_L_raised) (defBody s_L_raised) (defScope s_L_raised) .none kV16 dc16 pm16 an16 cd16 ct16), sl16⟩) (c16 : PySem.W.codeIn K cd16 "_law_raised" = true) (k16 : PySem.W.keepIn K (.ref f16) = true)
    {f17 : Addr} {od17 an17 : Option Addr} {sl17 : Array (Option Value)} {oc17 kV17 dc17 pm17 cd17 ct17 : Value} (a17 : PySem.W.nsIn K mainGlobals "_law_levels" = some (some (.ref f17))) (l17 : K.lookup f17 = some ⟨oc17, od17, .func (PySem.W.fnOf "_law_levels" "_law_levels" (defArgs s_L_levels) (defBody s_L_levels) (defScope s_L_levels) .none kV17 dc17 pm17 an17 cd17 ct17), sl17⟩) (c17 : PySem.W.codeIn K cd17 "_law_levels" = true) (k17 : PySem.W.keepIn K (.ref f17) = true)
    {f18 : Addr} {od18 an18 : Option Addr} {sl18 : Array (Option Value)} {oc18 kV18 dc18 pm18 cd18 ct18 : Value} (a18 : PySem.W.nsIn K mainGlobals "_law_any" = some (some (.ref f18))) (l18 : K.lookup f18 = some ⟨oc18, od18, .func (PySem.W.fnOf "_law_any" "_law_any" (defArgs s_L_any) (defBody s_L_any) (defScope s_L_any) .none kV18 dc18 pm18 an18 cd18 ct18), sl18⟩) (c18 : PySem.W.codeIn K cd18 "_law_any" = true) (k18 : PySem.W.keepIn K (.ref f18) = true)
    {f19 : Addr} {od19 an19 : Option Addr} {sl19 : Array (Option Value)} {oc19 kV19 dc19 pm19 cd19 ct19 : Value} (a19 : PySem.W.nsIn K mainGlobals "_law_table" = some (some (.ref f19))) (l19 : K.lookup f19 = some ⟨oc19, od19, .func (PySem.W.fnOf "_law_table" "_law_table" (defArgs s_L_table) (defBody s_L_table) (defScope s_L_table) .none kV19 dc19 pm19 an19 cd19 ct19), sl19⟩) (c19 : PySem.W.codeIn K cd19 "_law_table" = true) (k19 : PySem.W.keepIn K (.ref f19) = true)
    {f20 : Addr} {od20 an20 : Option Addr} {sl20 : Array (Option Value)} {oc20 kV20 dc20 pm20 cd20 ct20 : Value} (a20 : PySem.W.nsIn K mainGlobals "_law_table_text" = some (some (.ref f20))) (l20 : K.lookup f20 = some ⟨oc20, od20, .func (PySem.W.fnOf "_law_table_text" "_law_table_text" (defArgs s_L_table_text) (defBody s_L_table_text) (defScope s_L_table_text) .none kV20 dc20 pm20 an20 cd20 ct20), sl20⟩) (c20 : PySem.W.codeIn K cd20 "_law_table_text" = true) (k20 : PySem.W.keepIn K (.ref f20) = true)
    {f21 : Addr} {od21 an21 : Option Addr} {sl21 : Array (Option Value)} {oc21 kV21 dc21 pm21 cd21 ct21 : Value} (a21 : PySem.W.nsIn K mainGlobals "_law_number" = some (some (.ref f21))) (l21 : K.lookup f21 = some ⟨oc21, od21, .func (PySem.W.fnOf "_law_number" "_law_number" (defArgs s_L_number) (defBody s_L_number) (defScope s_L_number) .none kV21 dc21 pm21 an21 cd21 ct21), sl21⟩) (c21 : PySem.W.codeIn K cd21 "_law_number" = true) (k21 : PySem.W.keepIn K (.ref f21) = true)
    {f22 : Addr} {od22 an22 : Option Addr} {sl22 : Array (Option Value)} {oc22 kV22 dc22 pm22 cd22 ct22 : Value} (a22 : PySem.W.nsIn K mainGlobals "_law_reading" = some (some (.ref f22))) (l22 : K.lookup f22 = some ⟨oc22, od22, .func (PySem.W.fnOf "_law_reading" "_law_reading" (defArgs s_L_reading) (defBody s_L_reading) (defScope s_L_reading) .none kV22 dc22 pm22 an22 cd22 ct22), sl22⟩) (c22 : PySem.W.codeIn K cd22 "_law_reading" = true) (k22 : PySem.W.keepIn K (.ref f22) = true)
    {f23 : Addr} {od23 an23 : Option Addr} {sl23 : Array (Option Value)} {oc23 kV23 dc23 pm23 cd23 ct23 : Value} (a23 : PySem.W.nsIn K mainGlobals "_law_bent_word" = some (some (.ref f23))) (l23 : K.lookup f23 = some ⟨oc23, od23, .func (PySem.W.fnOf "_law_bent_word" "_law_bent_word" (defArgs s_L_bent_word) (defBody s_L_bent_word) (defScope s_L_bent_word) .none kV23 dc23 pm23 an23 cd23 ct23), sl23⟩) (c23 : PySem.W.codeIn K cd23 "_law_bent_word" = true) (k23 : PySem.W.keepIn K (.ref f23) = true)
    {f24 : Addr} {od24 an24 : Option Addr} {sl24 : Array (Option Value)} {oc24 kV24 dc24 pm24 cd24 ct24 : Value} (a24 : PySem.W.nsIn K mainGlobals "_law_bent" = some (some (.ref f24))) (l24 : K.lookup f24 = some ⟨oc24, od24, .func (PySem.W.fnOf "_law_bent" "_law_bent" (defArgs s_L_bent) (defBody s_L_bent) (defScope s_L_bent) .none kV24 dc24 pm24 an24 cd24 ct24), sl24⟩) (c24 : PySem.W.codeIn K cd24 "_law_bent" = true) (k24 : PySem.W.keepIn K (.ref f24) = true)
    {f25 : Addr} {od25 an25 : Option Addr} {sl25 : Array (Option Value)} {oc25 kV25 dc25 pm25 cd25 ct25 : Value} (a25 : PySem.W.nsIn K mainGlobals "_law_told" = some (some (.ref f25))) (l25 : K.lookup f25 = some ⟨oc25, od25, .func (PySem.W.fnOf "_law_told" "_law_told" (defArgs s_L_told) (defBody s_L_told) (defScope s_L_told) .none kV25 dc25 pm25 an25 cd25 ct25), sl25⟩) (c25 : PySem.W.codeIn K cd25 "_law_told" = true) (k25 : PySem.W.keepIn K (.ref f25) = true)
    {f26 : Addr} {od26 an26 : Option Addr} {sl26 : Array (Option Value)} {oc26 kV26 dc26 pm26 cd26 ct26 : Value} (a26 : PySem.W.nsIn K mainGlobals "_law_written" = some (some (.ref f26))) (l26 : K.lookup f26 = some ⟨oc26, od26, .func (PySem.W.fnOf "_law_written" "_law_written" (defArgs s_L_written) (defBody s_L_written) (defScope s_L_written) .none kV26 dc26 pm26 an26 cd26 ct26), sl26⟩) (c26 : PySem.W.codeIn K cd26 "_law_written" = true) (k26 : PySem.W.keepIn K (.ref f26) = true)
    {f27 : Addr} {od27 an27 : Option Addr} {sl27 : Array (Option Value)} {oc27 kV27 dc27 pm27 cd27 ct27 : Value} (a27 : PySem.W.nsIn K mainGlobals "_law_values" = some (some (.ref f27))) (l27 : K.lookup f27 = some ⟨oc27, od27, .func (PySem.W.fnOf "_law_values" "_law_values" (defArgs s_L_values) (defBody s_L_values) (defScope s_L_values) .none kV27 dc27 pm27 an27 cd27 ct27), sl27⟩) (c27 : PySem.W.codeIn K cd27 "_law_values" = true) (k27 : PySem.W.keepIn K (.ref f27) = true)
    {f28 : Addr} {od28 an28 : Option Addr} {sl28 : Array (Option Value)} {oc28 kV28 dc28 pm28 cd28 ct28 : Value} (a28 : PySem.W.nsIn K mainGlobals "law" = some (some (.ref f28))) (l28 : K.lookup f28 = some ⟨oc28, od28, .func (PySem.W.fnOf "law" "law" (defArgs s_law) (defBody s_law) (defScope s_law) .none kV28 dc28 pm28 an28 cd28 ct28), sl28⟩) (c28 : PySem.W.codeIn K cd28 "law" = true) (k28 : PySem.W.keepIn K (.ref f28) = true)
    {C_MergeError C_InvalidTable C_UnequalSizes : Addr}
    {C_ParseError f_ParseError : Addr} {nm_ParseError q_ParseError : Str} {N_ParseError : Addr} {bs_ParseError : List Value} {sn_ParseError : List Str} {sub_ParseError : List Value} {ab_ParseError : Bool} {col_ParseError : Option Bool} {dd_ParseError : Option Addr} {m0_ParseError m1_ParseError m2_ParseError m3_ParseError m5_ParseError : Option Value} {od_ParseError an_ParseError : Option Addr} {sl_ParseError : Array (Option Value)} {oc_ParseError dc_ParseError pm_ParseError cd_ParseError ct_ParseError : Value}
    (aC_ParseError : PySem.W.nsIn K mainGlobals "ParseError" = some (some (.ref C_ParseError)))
    (xL_ParseError : K.lookup C_ParseError = some (excClassObj nm_ParseError q_ParseError C_ParseError N_ParseError bs_ParseError [.ref C_MergeError, .type "ValueError", .type "Exception", .type "BaseException", .type "object"] true sn_ParseError sub_ParseError ab_ParseError col_ParseError dd_ParseError m0_ParseError m1_ParseError m2_ParseError m3_ParseError m5_ParseError "ValueError.__new__"))
    (sa_ParseError : PySem.W.findIn K (.ref C_ParseError) "__setattr__" = some (some (.builtin "object.__setattr__")))
    (ga_ParseError : PySem.W.findIn K (.ref C_ParseError) "__getattribute__" = some (some (.builtin "BaseException.__getattribute__")))
    (gg_ParseError : PySem.W.findIn K (.ref C_ParseError) "__getattr__" = some none)
    (nb_ParseError : PySem.W.findIn K (.ref C_ParseError) "place" = some none)
    (in_ParseError : PySem.W.findIn K (.ref C_ParseError) "__init__" = some (some (.ref f_ParseError)))
    (tf_ParseError : PySem.W.typeIn K (.ref f_ParseError) = some (.type "function"))
    (lf_ParseError : K.lookup f_ParseError = some ⟨oc_ParseError, od_ParseError, .func (PySem.W.fnOf "__init__" "ParseError.__init__" (PySem.Err_ParseError.iA ⟨17, 17, 17, 21⟩ ⟨17, 23, 17, 28⟩) (PySem.Err_ParseError.iB ⟨18, 8, 18, 12⟩ ⟨18, 8, 18, 18⟩ ⟨18, 21, 18, 26⟩ ⟨18, 8, 18, 26⟩) PySem.Err_ParseError.iS .none .none dc_ParseError pm_ParseError an_ParseError cd_ParseError ct_ParseError), sl_ParseError⟩)
    (cf_ParseError : PySem.W.codeIn K cd_ParseError "ParseError.__init__" = true)
    (kC_ParseError : PySem.W.keepIn K (.ref C_ParseError) = true)
    (eC_ParseError : PySem.W.subIn K (.ref C_ParseError) (.type "BaseException") = some true)
    (tC_ParseError : PySem.W.typeIn K (.ref C_ParseError) = some (.type "type"))
    (hC_ParseError : PySem.W.hasDictIn K C_ParseError = true)
    (te_ParseError : PySem.W.exmOne K (.ref C_ParseError) (.ref C_ParseError) = some true)
    (ha_ParseError : PySem.W.findIn K (.ref C_ParseError) "__class__" = some (some (.builtin "object.__class__")))
    (hn_ParseError : PySem.W.specialIn K (.builtin "object.__class__") "__get__" = some (some (.builtin "getset_descriptor.__get__")))
    (ht_ParseError : PySem.W.takesIn K (.builtin "object.__class__") = some true)
    (hm_ParseError : PySem.W.mroIn K C_ParseError (.type "object") = some true)
    (aC_MergeError : PySem.W.nsIn K mainGlobals "MergeError" = some (some (.ref C_MergeError)))
    (aC_InvalidTable : PySem.W.nsIn K mainGlobals "InvalidTable" = some (some (.ref C_InvalidTable)))
    (aC_UnequalSizes : PySem.W.nsIn K mainGlobals "UnequalSizes" = some (some (.ref C_UnequalSizes)))
    (zf_LookupError : PySem.W.nsIn K mainGlobals "LookupError" = some none)
    (iM : PySem.W.kitOne K (.ref C_ParseError) (.ref C_MergeError) = some true)
    (iA : PySem.W.kitAny K (.ref C_ParseError) [.ref C_InvalidTable, .ref C_UnequalSizes, .type "LookupError"] = some false)
    {t_ITEMS : Tok} (n_ITEMS : PySem.W.nsIn K mainGlobals "ITEMS" = some (some (.int 12 t_ITEMS))) {t_LEVEL : Tok} (n_LEVEL : PySem.W.nsIn K mainGlobals "LEVEL" = some (some (.int 1000000000000 t_LEVEL))) {t_DIGITS : Tok} (n_DIGITS : PySem.W.nsIn K mainGlobals "DIGITS" = some (some (.int 13 t_DIGITS)))   (z1 : PySem.W.nsIn K mainGlobals "len" = some none) (z2 : PySem.W.nsIn K mainGlobals "list" = some none) (z3 : PySem.W.nsIn K mainGlobals "int" = some none) (z4 : PySem.W.nsIn K mainGlobals "range" = some none) (z5 : PySem.W.nsIn K mainGlobals "sorted" = some none) (z6 : PySem.W.nsIn K mainGlobals "set" = some none) (z7 : PySem.W.nsIn K mainGlobals "tuple" = some none) (z8 : PySem.W.nsIn K mainGlobals "min" = some none) (z9 : PySem.W.nsIn K mainGlobals "max" = some none) (z10 : PySem.W.nsIn K mainGlobals "isinstance" = some none) (z11 : PySem.W.nsIn K mainGlobals "bool" = some none) (z12 : PySem.W.nsIn K mainGlobals "str" = some none) (z13 : PySem.W.nsIn K mainGlobals "all" = some none) (z14 : PySem.W.nsIn K mainGlobals "zip" = some none) (z15 : PySem.W.nsIn K mainGlobals "repr" = some none) (z16 : PySem.W.nsIn K mainGlobals "enumerate" = some none) (z17 : PySem.W.nsIn K mainGlobals "abs" = some none) (z18 : PySem.W.nsIn K mainGlobals "sum" = some none) (z19 : PySem.W.nsIn K mainGlobals "dict" = some none) :
    ∃ fd : FuncData, (∀ (s : Shared) (v : Value), BindsTo s fd ⟨[v], []⟩ [("_law_script", v)]) ∧ ∀ base : Heap, K.In base → base.Ns mainGlobals mg → GOk l.prog w K mg base 10 fa fd ["_law_script"] (sp_law K) := by
  have e := hfa.symm.trans (PySem.W.mg_of X G a28)
  cases e
  have B : Bi mg := ⟨PySem.W.mg_none_of X G z1, PySem.W.mg_none_of X G z2, PySem.W.mg_none_of X G z3, PySem.W.mg_none_of X G z4, PySem.W.mg_none_of X G z5, PySem.W.mg_none_of X G z6, PySem.W.mg_none_of X G z7, PySem.W.mg_none_of X G z8, PySem.W.mg_none_of X G z9, PySem.W.mg_none_of X G z10, PySem.W.mg_none_of X G z11, PySem.W.mg_none_of X G z12, PySem.W.mg_none_of X G z13, PySem.W.mg_none_of X G z14, PySem.W.mg_none_of X G z15, PySem.W.mg_none_of X G z16, PySem.W.mg_none_of X G z17, PySem.W.mg_none_of X G z18, PySem.W.mg_none_of X G z19⟩
  have g_ITEMS : ∃ t, mg "ITEMS" = some (.int 12 t) := ⟨_, PySem.W.mg_of X G n_ITEMS⟩
  have g_LEVEL : ∃ t, mg "LEVEL" = some (.int 1000000000000 t) := ⟨_, PySem.W.mg_of X G n_LEVEL⟩
  have g_DIGITS : ∃ t, mg "DIGITS" = some (.int 13 t) := ⟨_, PySem.W.mg_of X G n_DIGITS⟩
  have d_is_whole := df_mk (st := s_is_whole) (ps := ["value"]) X G a1 l1 c1 k1 (fun _ _ _ _ _ _ us hl => match us, hl with | [_], _ => rfl)
  have d_is_level := df_mk (st := s_is_level) (ps := ["value"]) X G a2 l2 c2 k2 (fun _ _ _ _ _ _ us hl => match us, hl with | [_], _ => rfl)
  have d_number_of := df_mk (st := s_number_of) (ps := ["word"]) X G a3 l3 c3 k3 (fun _ _ _ _ _ _ us hl => match us, hl with | [_], _ => rfl)
  have d_count_in := df_mk (st := s_count_in) (ps := ["line"]) X G a4 l4 c4 k4 (fun _ _ _ _ _ _ us hl => match us, hl with | [_], _ => rfl)
  have d_row_in := df_mk (st := s_row_in) (ps := ["line", "size"]) X G a5 l5 c5 k5 (fun _ _ _ _ _ _ us hl => match us, hl with | [_, _], _ => rfl)
  have d_parse_lines := df_mk (st := s_parse_lines) (ps := ["lines"]) X G a6 l6 c6 k6 (fun _ _ _ _ _ _ us hl => match us, hl with | [_], _ => rfl)
  have d_parse_table := df_mk (st := s_parse_table) (ps := ["value"]) X G a7 l7 c7 k7 (fun _ _ _ _ _ _ us hl => match us, hl with | [_], _ => rfl)
  have d_L_draws := df_mk (st := s_L_draws) (ps := ["_law_script"]) X G a8 l8 c8 k8 (fun _ _ _ _ _ _ us hl => match us, hl with | [_], _ => rfl)
  have d_L_next := df_mk (st := s_L_next) (ps := ["_law_drawn", "_law_many"]) X G a9 l9 c9 k9 (fun _ _ _ _ _ _ us hl => match us, hl with | [_, _], _ => rfl)
  have d_L_one := df_mk (st := s_L_one) (ps := ["_law_drawn", "_law_items"]) X G a10 l10 c10 k10 (fun _ _ _ _ _ _ us hl => match us, hl with | [_, _], _ => rfl)
  have d_L_odd := df_mk (st := s_L_odd) (ps := ["_law_drawn"]) X G a11 l11 c11 k11 (fun _ _ _ _ _ _ us hl => match us, hl with | [_], _ => rfl)
  have d_L_count := df_mk (st := s_L_count) (ps := ["_law_drawn", "_law_most"]) X G a12 l12 c12 k12 (fun _ _ _ _ _ _ us hl => match us, hl with | [_, _], _ => rfl)
  have d_L_grades := df_mk (st := s_L_grades) (ps := ["_law_drawn"]) X G a13 l13 c13 k13 (fun _ _ _ _ _ _ us hl => match us, hl with | [_], _ => rfl)
  have d_L_level := df_mk (st := s_L_level) (ps := ["_law_table_here", "_law_one_here", "_law_other"]) X G a14 l14 c14 k14 (fun _ _ _ _ _ _ us hl => match us, hl with | [_, _, _], _ => rfl)
  have d_L_nested := df_mk (st := s_L_nested) (ps := ["_law_drawn", "_law_count_here", "_law_grades_here"]) X G a15 l15 c15 k15 (fun _ _ _ _ _ _ us hl => match us, hl with | [_, _, _], _ => rfl)
  have d_L_raised := df_mk (st := s_L_raised) (ps := ["_law_drawn", "_law_table_here", "_law_grades_here"]) X G a16 l16 c16 k16 (fun _ _ _ _ _ _ us hl => match us, hl with | [_, _, _], _ => rfl)
  have d_L_levels := df_mk (st := s_L_levels) (ps := ["_law_drawn", "_law_many", "_law_grades_here"]) X G a17 l17 c17 k17 (fun _ _ _ _ _ _ us hl => match us, hl with | [_, _, _], _ => rfl)
  have d_L_any := df_mk (st := s_L_any) (ps := ["_law_drawn", "_law_many", "_law_wide"]) X G a18 l18 c18 k18 (fun _ _ _ _ _ _ us hl => match us, hl with | [_, _, _], _ => rfl)
  have d_L_table := df_mk (st := s_L_table) (ps := ["_law_drawn", "_law_count_here"]) X G a19 l19 c19 k19 (fun _ _ _ _ _ _ us hl => match us, hl with | [_, _], _ => rfl)
  have d_L_table_text := df_mk (st := s_L_table_text) (ps := ["_law_table_here"]) X G a20 l20 c20 k20 (fun _ _ _ _ _ _ us hl => match us, hl with | [_], _ => rfl)
  have d_L_number := df_mk (st := s_L_number) (ps := ["_law_word"]) X G a21 l21 c21 k21 (fun _ _ _ _ _ _ us hl => match us, hl with | [_], _ => rfl)
  have d_L_reading := df_mk (st := s_L_reading) (ps := ["_law_value"]) X G a22 l22 c22 k22 (fun _ _ _ _ _ _ us hl => match us, hl with | [_], _ => rfl)
  have d_L_bent_word := df_mk (st := s_L_bent_word) (ps := ["_law_drawn", "_law_line"]) X G a23 l23 c23 k23 (fun _ _ _ _ _ _ us hl => match us, hl with | [_, _], _ => rfl)
  have d_L_bent := df_mk (st := s_L_bent) (ps := ["_law_drawn", "_law_words"]) X G a24 l24 c24 k24 (fun _ _ _ _ _ _ us hl => match us, hl with | [_, _], _ => rfl)
  have d_L_told := df_mk (st := s_L_told) (ps := ["_law_value"]) X G a25 l25 c25 k25 (fun _ _ _ _ _ _ us hl => match us, hl with | [_], _ => rfl)
  have d_L_written := df_mk (st := s_L_written) (ps := ["_law_drawn"]) X G a26 l26 c26 k26 (fun _ _ _ _ _ _ us hl => match us, hl with | [_], _ => rfl)
  have d_L_values := df_mk (st := s_L_values) (ps := ["_law_drawn"]) X G a27 l27 c27 k27 (fun _ _ _ _ _ _ us hl => match us, hl with | [_], _ => rfl)
  have e_ParseError : PySem.Err_ParseError.Txt K mg C_ParseError f_ParseError :=
    { gC := PySem.W.mg_of X G aC_ParseError, cls := ⟨nm_ParseError, q_ParseError, N_ParseError, bs_ParseError, _, sn_ParseError, sub_ParseError, ab_ParseError, col_ParseError, dd_ParseError, m0_ParseError, m1_ParseError, m2_ParseError, m3_ParseError, m5_ParseError, xL_ParseError, by first | rfl | decide +kernel⟩, sa := sa_ParseError, ga := ga_ParseError, gg := gg_ParseError, noN := nb_ParseError, iC := in_ParseError, tC := tf_ParseError, kC := kC_ParseError, exC := eC_ParseError, tyC := tC_ParseError, hdC := hC_ParseError, te := te_ParseError,
      fn := ⟨_, _, _, _, _, _, _, _, _, _, _, _, _, _, lf_ParseError, cf_ParseError⟩ }
  have x_ParseError : ExcC K C_ParseError := ⟨ga_ParseError, gg_ParseError, eC_ParseError, hC_ParseError, ha_ParseError, hn_ParseError, ht_ParseError, hm_ParseError⟩
  have g_MergeError : mg "MergeError" = some (.ref C_MergeError) := PySem.W.mg_of X G aC_MergeError
  have g_InvalidTable : mg "InvalidTable" = some (.ref C_InvalidTable) := PySem.W.mg_of X G aC_InvalidTable
  have g_UnequalSizes : mg "UnequalSizes" = some (.ref C_UnequalSizes) := PySem.W.mg_of X G aC_UnequalSizes
  have gz_LookupError : mg "LookupError" = none := PySem.W.mg_none_of X G zf_LookupError
  have TD : DrawDefs K mg := ⟨B, ⟨_, _, d_L_next⟩, ⟨_, _, d_L_one⟩, ⟨_, _, d_L_count⟩, ⟨_, _, d_L_grades⟩, ⟨_, _, d_L_level⟩, ⟨_, _, d_L_nested⟩, ⟨_, _, d_L_raised⟩, ⟨_, _, d_L_levels⟩, ⟨_, _, d_L_any⟩⟩
  have T : LawDefs K mg := ⟨⟨TD, ⟨_, _, d_L_table⟩, ⟨_, _, d_L_table_text⟩, ⟨_, _, d_L_written⟩, ⟨_, _, d_L_bent⟩, ⟨_, _, d_L_bent_word⟩, ⟨_, _, d_L_odd⟩⟩,
    ⟨_, _, _, _, _, ⟨B, e_ParseError, x_ParseError, g_MergeError, g_InvalidTable, g_UnequalSizes, gz_LookupError, iM, iA, ⟨_, _, d_parse_lines⟩, ⟨_, _, d_count_in⟩, ⟨_, _, d_row_in⟩, ⟨_, _, d_number_of⟩, ⟨_, _, d_is_level⟩, ⟨_, _, d_is_whole⟩, g_DIGITS, g_ITEMS, g_LEVEL⟩⟩,
    ⟨_, _, d_L_draws⟩, ⟨_, _, d_L_values⟩, ⟨_, _, d_L_reading⟩, ⟨_, _, d_L_number⟩, ⟨_, _, d_L_told⟩, ⟨_, _, d_parse_table⟩⟩
  exact ⟨PySem.W.fnOf "law" "law" (defArgs s_law) (defBody s_law) (defScope s_law) .none kV28 dc28 pm28 an28 cd28 ct28, fun s v => .of_eq rfl, fun base _ _ => ok_law (fun_mk l28 c28 k28) T⟩
set_option maxHeartbeats 0 in
theorem hfacts {w : World} {K : PySem.W.Frag} {h : Heap} {mg : Str → Option Value} {fa : Addr} (X : K.In h) (G : h.Ns mainGlobals mg) (hfa : mg "law" = some (.ref fa)) (c : Says2 hfs hfn K) (ch : hhx K = hhv w) :
    ∃ fd : FuncData, (∀ (s : Shared) (v : Value), BindsTo s fd ⟨[v], []⟩ [("_law_script", v)]) ∧ ∀ base : Heap, K.In base → base.Ns mainGlobals mg → GOk PySem.Challenge.rw_mergelevels_k79_other_texts_of_tables.prog w K mg base 10 fa fd ["_law_script"] (sp_law K) := by
  have a1 : PySem.W.nsIn K mainGlobals "is_whole" = some (some (.ref (He.ga K "is_whole"))) := of_decide_eq_true (c.fact 0 0)
  obtain ⟨_, _, _, kv_l1, _, _, _, _, _, l1, cc_l1⟩ := c.def_ 0 (d := ⟨fun K => (He.ga K "is_whole"), "is_whole", "is_whole", (defArgs s_is_whole), (defBody s_is_whole), (defScope s_is_whole)⟩) (by rfl)
  have k1 : PySem.W.keepIn K (.ref (He.ga K "is_whole")) = true := c.fact 0 1
  have a2 : PySem.W.nsIn K mainGlobals "is_level" = some (some (.ref (He.ga K "is_level"))) := of_decide_eq_true (c.fact 0 2)
  obtain ⟨_, _, _, kv_l2, _, _, _, _, _, l2, cc_l2⟩ := c.def_ 1 (d := ⟨fun K => (He.ga K "is_level"), "is_level", "is_level", (defArgs s_is_level), (defBody s_is_level), (defScope s_is_level)⟩) (by rfl)
  have k2 : PySem.W.keepIn K (.ref (He.ga K "is_level")) = true := c.fact 0 3
  have a3 : PySem.W.nsIn K mainGlobals "number_of" = some (some (.ref (He.ga K "number_of"))) := of_decide_eq_true (c.fact 0 4)
  obtain ⟨_, _, _, kv_l3, _, _, _, _, _, l3, cc_l3⟩ := c.def_ 2 (d := ⟨fun K => (He.ga K "number_of"), "number_of", "number_of", (defArgs s_number_of), (defBody s_number_of), (defScope s_number_of)⟩) (by rfl)
  have k3 : PySem.W.keepIn K (.ref (He.ga K "number_of")) = true := c.fact 0 5
  have a4 : PySem.W.nsIn K mainGlobals "count_in" = some (some (.ref (He.ga K "count_in"))) := of_decide_eq_true (c.fact 0 6)
  obtain ⟨_, _, _, kv_l4, _, _, _, _, _, l4, cc_l4⟩ := c.def_ 3 (d := ⟨fun K => (He.ga K "count_in"), "count_in", "count_in", (defArgs s_count_in), (defBody s_count_in), (defScope s_count_in)⟩) (by rfl)
  have k4 : PySem.W.keepIn K (.ref (He.ga K "count_in")) = true := c.fact 0 7
  have a5 : PySem.W.nsIn K mainGlobals "row_in" = some (some (.ref (He.ga K "row_in"))) := of_decide_eq_true (c.fact 0 8)
  obtain ⟨_, _, _, kv_l5, _, _, _, _, _, l5, cc_l5⟩ := c.def_ 4 (d := ⟨fun K => (He.ga K "row_in"), "row_in", "row_in", (defArgs s_row_in), (defBody s_row_in), (defScope s_row_in)⟩) (by rfl)
  have k5 : PySem.W.keepIn K (.ref (He.ga K "row_in")) = true := c.fact 0 9
  have a6 : PySem.W.nsIn K mainGlobals "parse_lines" = some (some (.ref (He.ga K "parse_lines"))) := of_decide_eq_true (c.fact 0 10)
  obtain ⟨_, _, _, kv_l6, _, _, _, _, _, l6, cc_l6⟩ := c.def_ 5 (d := ⟨fun K => (He.ga K "parse_lines"), "parse_lines", "parse_lines", (defArgs s_parse_lines), (defBody s_parse_lines), (defScope s_parse_lines)⟩) (by rfl)
  have k6 : PySem.W.keepIn K (.ref (He.ga K "parse_lines")) = true := c.fact 0 11
  have a7 : PySem.W.nsIn K mainGlobals "parse_table" = some (some (.ref (He.ga K "parse_table"))) := of_decide_eq_true (c.fact 0 12)
  obtain ⟨_, _, _, kv_l7, _, _, _, _, _, l7, cc_l7⟩ := c.def_ 6 (d := ⟨fun K => (He.ga K "parse_table"), "parse_table", "parse_table", (defArgs s_parse_table), (defBody s_parse_table), (defScope s_parse_table)⟩) (by rfl)
  have k7 : PySem.W.keepIn K (.ref (He.ga K "parse_table")) = true := c.fact 0 13
  have a8 : PySem.W.nsIn K mainGlobals "_law_draws" = some (some (.ref (He.ga K "_law_draws"))) := of_decide_eq_true (c.fact 0 14)
  obtain ⟨_, _, _, kv_l8, _, _, _, _, _, l8, cc_l8⟩ := c.def_ 7 (d := ⟨fun K => (He.ga K "_law_draws"), "_law_draws", "_law_draws", (defArgs s_L_draws), (defBody s_L_draws), (defScope s_L_draws)⟩) (by rfl)
  have k8 : PySem.W.keepIn K (.ref (He.ga K "_law_draws")) = true := c.fact 0 15
  have a9 : PySem.W.nsIn K mainGlobals "_law_next" = some (some (.ref (He.ga K "_law_next"))) := of_decide_eq_true (c.fact 0 16)
  obtain ⟨_, _, _, kv_l9, _, _, _, _, _, l9, cc_l9⟩ := c.def_ 8 (d := ⟨fun K => (He.ga K "_law_next"), "_law_next", "_law_next", (defArgs s_L_next), (defBody s_L_next), (defScope s_L_next)⟩) (by rfl)
  have k9 : PySem.W.keepIn K (.ref (He.ga K "_law_next")) = true := c.fact 0 17
  have a10 : PySem.W.nsIn K mainGlobals "_law_one" = some (some (.ref (He.ga K "_law_one"))) := of_decide_eq_true (c.fact 0 18)
  obtain ⟨_, _, _, kv_l10, _, _, _, _, _, l10, cc_l10⟩ := c.def_ 9 (d := ⟨fun K => (He.ga K "_law_one"), "_law_one", "_law_one", (defArgs s_L_one), (defBody s_L_one), (defScope s_L_one)⟩) (by rfl)
  have k10 : PySem.W.keepIn K (.ref (He.ga K "_law_one")) = true := c.fact 0 19
  have a11 : PySem.W.nsIn K mainGlobals "_law_odd" = some (some (.ref (He.ga K "_law_odd"))) := of_decide_eq_true (c.fact 0 20)
  obtain ⟨_, _, _, kv_l11, _, _, _, _, _, l11, cc_l11⟩ := c.def_ 10 (d := ⟨fun K => (He.ga K "_law_odd"), "_law_odd", "_law_odd", (defArgs s_L_odd), (defBody s_L_odd), (defScope s_L_odd)⟩) (by rfl)
  have k11 : PySem.W.keepIn K (.ref (He.ga K "_law_odd")) = true := c.fact 0 21
  have a12 : PySem.W.nsIn K mainGlobals "_law_count" = some (some (.ref (He.ga K "_law_count"))) := of_decide_eq_true (c.fact 0 22)
  obtain ⟨_, _, _, kv_l12, _, _, _, _, _, l12, cc_l12⟩ := c.def_ 11 (d := ⟨fun K => (He.ga K "_law_count"), "_law_count", "_law_count", (defArgs s_L_count), (defBody s_L_count), (defScope s_L_count)⟩) (by rfl)
  have k12 : PySem.W.keepIn K (.ref (He.ga K "_law_count")) = true := c.fact 0 23
  have a13 : PySem.W.nsIn K mainGlobals "_law_grades" = some (some (.ref (He.ga K "_law_grades"))) := of_decide_eq_true (c.fact 0 24)
  obtain ⟨_, _, _, kv_l13, _, _, _, _, _, l13, cc_l13⟩ := c.def_ 12 (d := ⟨fun K => (He.ga K "_law_grades"), "_law_grades", "_law_grades", (defArgs s_L_grades), (defBody s_L_grades), (defScope s_L_grades)⟩) (by rfl)
  have k13 : PySem.W.keepIn K (.ref (He.ga K "_law_grades")) = true := c.fact 0 25
  have a14 : PySem.W.nsIn K mainGlobals "_law_level" = some (some (.ref (He.ga K "_law_level"))) := of_decide_eq_true (c.fact 0 26)
  obtain ⟨_, _, _, kv_l14, _, _, _, _, _, l14, cc_l14⟩ := c.def_ 13 (d := ⟨fun K => (He.ga K "_law_level"), "_law_level", "_law_level", (defArgs s_L_level), (defBody s_L_level), (defScope s_L_level)⟩) (by rfl)
  have k14 : PySem.W.keepIn K (.ref (He.ga K "_law_level")) = true := c.fact 0 27
  have a15 : PySem.W.nsIn K mainGlobals "_law_nested" = some (some (.ref (He.ga K "_law_nested"))) := of_decide_eq_true (c.fact 0 28)
  obtain ⟨_, _, _, kv_l15, _, _, _, _, _, l15, cc_l15⟩ := c.def_ 14 (d := ⟨fun K => (He.ga K "_law_nested"), "_law_nested", "_law_nested", (defArgs s_L_nested), (defBody s_L_nested), (defScope s_L_nested)⟩) (by rfl)
  have k15 : PySem.W.keepIn K (.ref (He.ga K "_law_nested")) = true := c.fact 0 29
  have a16 : PySem.W.nsIn K mainGlobals "_law_raised" = some (some (.ref (He.ga K "_law_raised"))) := of_decide_eq_true (c.fact 0 30)
  obtain ⟨_, _, _, kv_l16, _, _, _, _, _, l16, cc_l16⟩ := c.def_ 15 (d := ⟨fun K => (He.ga K "_law_raised"), "_law_raised", "_law_raised", (defArgs s_L_raised), (defBody s_L_raised), (defScope s_L_raised)⟩) (by rfl)
  have k16 : PySem.W.keepIn K (.ref (He.ga K "_law_raised")) = true := c.fact 0 31
  have a17 : PySem.W.nsIn K mainGlobals "_law_levels" = some (some (.ref (He.ga K "_law_levels"))) := of_decide_eq_true (c.fact 0 32)
  obtain ⟨_, _, _, kv_l17, _, _, _, _, _, l17, cc_l17⟩ := c.def_ 16 (d := ⟨fun K => (He.ga K "_law_levels"), "_law_levels", "_law_levels", (defArgs s_L_levels), (defBody s_L_levels), (defScope s_L_levels)⟩) (by rfl)
  have k17 : PySem.W.keepIn K (.ref (He.ga K "_law_levels")) = true := c.fact 0 33
  have a18 : PySem.W.nsIn K mainGlobals "_law_any" = some (some (.ref (He.ga K "_law_any"))) := of_decide_eq_true (c.fact 0 34)
  obtain ⟨_, _, _, kv_l18, _, _, _, _, _, l18, cc_l18⟩ := c.def_ 17 (d := ⟨fun K => (He.ga K "_law_any"), "_law_any", "_law_any", (defArgs s_L_any), (defBody s_L_any), (defScope s_L_any)⟩) (by rfl)
  have k18 : PySem.W.keepIn K (.ref (He.ga K "_law_any")) = true := c.fact 0 35
  have a19 : PySem.W.nsIn K mainGlobals "_law_table" = some (some (.ref (He.ga K "_law_table"))) := of_decide_eq_true (c.fact 0 36)
  obtain ⟨_, _, _, kv_l19, _, _, _, _, _, l19, cc_l19⟩ := c.def_ 18 (d := ⟨fun K => (He.ga K "_law_table"), "_law_table", "_law_table", (defArgs s_L_table), (defBody s_L_table), (defScope s_L_table)⟩) (by rfl)
  have k19 : PySem.W.keepIn K (.ref (He.ga K "_law_table")) = true := c.fact 0 37
  have a20 : PySem.W.nsIn K mainGlobals "_law_table_text" = some (some (.ref (He.ga K "_law_table_text"))) := of_decide_eq_true (c.fact 0 38)
  obtain ⟨_, _, _, kv_l20, _, _, _, _, _, l20, cc_l20⟩ := c.def_ 19 (d := ⟨fun K => (He.ga K "_law_table_text"), "_law_table_text", "_law_table_text", (defArgs s_L_table_text), (defBody s_L_table_text), (defScope s_L_table_text)⟩) (by rfl)
  have k20 : PySem.W.keepIn K (.ref (He.ga K "_law_table_text")) = true := c.fact 0 39
  have a21 : PySem.W.nsIn K mainGlobals "_law_number" = some (some (.ref (He.ga K "_law_number"))) := of_decide_eq_true (c.fact 0 40)
  obtain ⟨_, _, _, kv_l21, _, _, _, _, _, l21, cc_l21⟩ := c.def_ 20 (d := ⟨fun K => (He.ga K "_law_number"), "_law_number", "_law_number", (defArgs s_L_number), (defBody s_L_number), (defScope s_L_number)⟩) (by rfl)
  have k21 : PySem.W.keepIn K (.ref (He.ga K "_law_number")) = true := c.fact 0 41
  have a22 : PySem.W.nsIn K mainGlobals "_law_reading" = some (some (.ref (He.ga K "_law_reading"))) := of_decide_eq_true (c.fact 0 42)
  obtain ⟨_, _, _, kv_l22, _, _, _, _, _, l22, cc_l22⟩ := c.def_ 21 (d := ⟨fun K => (He.ga K "_law_reading"), "_law_reading", "_law_reading", (defArgs s_L_reading), (defBody s_L_reading), (defScope s_L_reading)⟩) (by rfl)
  have k22 : PySem.W.keepIn K (.ref (He.ga K "_law_reading")) = true := c.fact 0 43
  have a23 : PySem.W.nsIn K mainGlobals "_law_bent_word" = some (some (.ref (He.ga K "_law_bent_word"))) := of_decide_eq_true (c.fact 0 44)
  obtain ⟨_, _, _, kv_l23, _, _, _, _, _, l23, cc_l23⟩ := c.def_ 22 (d := ⟨fun K => (He.ga K "_law_bent_word"), "_law_bent_word", "_law_bent_word", (defArgs s_L_bent_word), (defBody s_L_bent_word), (defScope s_L_bent_word)⟩) (by rfl)
  have k23 : PySem.W.keepIn K (.ref (He.ga K "_law_bent_word")) = true := c.fact 0 45
  have a24 : PySem.W.nsIn K mainGlobals "_law_bent" = some (some (.ref (He.ga K "_law_bent"))) := of_decide_eq_true (c.fact 0 46)
  obtain ⟨_, _, _, kv_l24, _, _, _, _, _, l24, cc_l24⟩ := c.def_ 23 (d := ⟨fun K => (He.ga K "_law_bent"), "_law_bent", "_law_bent", (defArgs s_L_bent), (defBody s_L_bent), (defScope s_L_bent)⟩) (by rfl)
  have k24 : PySem.W.keepIn K (.ref (He.ga K "_law_bent")) = true := c.fact 0 47
  have a25 : PySem.W.nsIn K mainGlobals "_law_told" = some (some (.ref (He.ga K "_law_told"))) := of_decide_eq_true (c.fact 0 48)
  obtain ⟨_, _, _, kv_l25, _, _, _, _, _, l25, cc_l25⟩ := c.def_ 24 (d := ⟨fun K => (He.ga K "_law_told"), "_law_told", "_law_told", (defArgs s_L_told), (defBody s_L_told), (defScope s_L_told)⟩) (by rfl)
  have k25 : PySem.W.keepIn K (.ref (He.ga K "_law_told")) = true := c.fact 0 49
  have a26 : PySem.W.nsIn K mainGlobals "_law_written" = some (some (.ref (He.ga K "_law_written"))) := of_decide_eq_true (c.fact 0 50)
  obtain ⟨_, _, _, kv_l26, _, _, _, _, _, l26, cc_l26⟩ := c.def_ 25 (d := ⟨fun K => (He.ga K "_law_written"), "_law_written", "_law_written", (defArgs s_L_written), (defBody s_L_written), (defScope s_L_written)⟩) (by rfl)
  have k26 : PySem.W.keepIn K (.ref (He.ga K "_law_written")) = true := c.fact 0 51
  have a27 : PySem.W.nsIn K mainGlobals "_law_values" = some (some (.ref (He.ga K "_law_values"))) := of_decide_eq_true (c.fact 0 52)
  obtain ⟨_, _, _, kv_l27, _, _, _, _, _, l27, cc_l27⟩ := c.def_ 26 (d := ⟨fun K => (He.ga K "_law_values"), "_law_values", "_law_values", (defArgs s_L_values), (defBody s_L_values), (defScope s_L_values)⟩) (by rfl)
  have k27 : PySem.W.keepIn K (.ref (He.ga K "_law_values")) = true := c.fact 0 53
  have a28 : PySem.W.nsIn K mainGlobals "law" = some (some (.ref (He.ga K "law"))) := of_decide_eq_true (c.fact 0 54)
  obtain ⟨_, _, _, kv_l28, _, _, _, _, _, l28, cc_l28⟩ := c.def_ 27 (d := ⟨fun K => (He.ga K "law"), "law", "law", (defArgs s_law), (defBody s_law), (defScope s_law)⟩) (by rfl)
  have k28 : PySem.W.keepIn K (.ref (He.ga K "law")) = true := c.fact 0 55
  have aC_ParseError : PySem.W.nsIn K mainGlobals "ParseError" = some (some (.ref (He.ga K "ParseError"))) := of_decide_eq_true (c.fact 0 56)
  obtain ⟨_, _, _, _, _, _, _, _, _, _, _, _, _, _, xL_ParseError⟩ := exc_cls (c.fact 0 57) (c.fact 0 58)
  have sa_ParseError : PySem.W.findIn K (.ref (He.ga K "ParseError")) "__setattr__" = some (some (.builtin "object.__setattr__")) := of_decide_eq_true (c.fact 0 59)
  have ga_ParseError : PySem.W.findIn K (.ref (He.ga K "ParseError")) "__getattribute__" = some (some (.builtin "BaseException.__getattribute__")) := of_decide_eq_true (c.fact 0 60)
  have gg_ParseError : PySem.W.findIn K (.ref (He.ga K "ParseError")) "__getattr__" = some none := of_decide_eq_true (c.fact 0 61)
  have nb_ParseError : PySem.W.findIn K (.ref (He.ga K "ParseError")) "place" = some none := of_decide_eq_true (c.fact 0 62)
  have in_ParseError : PySem.W.findIn K (.ref (He.ga K "ParseError")) "__init__" = some (some (.ref (He.ma K (He.ga K "ParseError") "__init__"))) := of_decide_eq_true (c.fact 0 63)
  have tf_ParseError : PySem.W.typeIn K (.ref (He.ma K (He.ga K "ParseError") "__init__")) = some (.type "function") := of_decide_eq_true (c.fact 0 64)
  obtain ⟨_, _, _, kv_lf_ParseError, _, _, _, _, _, lf_ParseError, cc_lf_ParseError⟩ := c.def_ 28 (d := ⟨fun K => (He.ma K (He.ga K "ParseError") "__init__"), "__init__", "ParseError.__init__", (PySem.Err_ParseError.iA ⟨17, 17, 17, 21⟩ ⟨17, 23, 17, 28⟩), (PySem.Err_ParseError.iB ⟨18, 8, 18, 12⟩ ⟨18, 8, 18, 18⟩ ⟨18, 21, 18, 26⟩ ⟨18, 8, 18, 26⟩), PySem.Err_ParseError.iS⟩) (by rfl)
  obtain rfl := kv_of (c.fact 0 65) lf_ParseError
  have kC_ParseError : PySem.W.keepIn K (.ref (He.ga K "ParseError")) = true := c.fact 0 66
  have eC_ParseError : PySem.W.subIn K (.ref (He.ga K "ParseError")) (.type "BaseException") = some true := of_decide_eq_true (c.fact 0 67)
  have tC_ParseError : PySem.W.typeIn K (.ref (He.ga K "ParseError")) = some (.type "type") := of_decide_eq_true (c.fact 0 68)
  have hC_ParseError : PySem.W.hasDictIn K (He.ga K "ParseError") = true := c.fact 0 69
  have te_ParseError : PySem.W.exmOne K (.ref (He.ga K "ParseError")) (.ref (He.ga K "ParseError")) = some true := of_decide_eq_true (c.fact 0 70)
  have ha_ParseError : PySem.W.findIn K (.ref (He.ga K "ParseError")) "__class__" = some (some (.builtin "object.__class__")) := of_decide_eq_true (c.fact 0 71)
  have hn_ParseError : PySem.W.specialIn K (.builtin "object.__class__") "__get__" = some (some (.builtin "getset_descriptor.__get__")) := of_decide_eq_true (c.fact 0 72)
  have ht_ParseError : PySem.W.takesIn K (.builtin "object.__class__") = some true := of_decide_eq_true (c.fact 0 73)
  have hm_ParseError : PySem.W.mroIn K (He.ga K "ParseError") (.type "object") = some true := of_decide_eq_true (c.fact 0 74)
  have aC_MergeError : PySem.W.nsIn K mainGlobals "MergeError" = some (some (.ref (He.ga K "MergeError"))) := of_decide_eq_true (c.fact 0 75)
  have aC_InvalidTable : PySem.W.nsIn K mainGlobals "InvalidTable" = some (some (.ref (He.ga K "InvalidTable"))) := of_decide_eq_true (c.fact 0 76)
  have aC_UnequalSizes : PySem.W.nsIn K mainGlobals "UnequalSizes" = some (some (.ref (He.ga K "UnequalSizes"))) := of_decide_eq_true (c.fact 0 77)
  have zf_LookupError : PySem.W.nsIn K mainGlobals "LookupError" = some none := of_decide_eq_true (c.fact 0 78)
  have iM : PySem.W.kitOne K (.ref (He.ga K "ParseError")) (.ref (He.ga K "MergeError")) = some true := of_decide_eq_true (c.fact 0 79)
  have iA : PySem.W.kitAny K (.ref (He.ga K "ParseError")) [.ref (He.ga K "InvalidTable"), .ref (He.ga K "UnequalSizes"), .type "LookupError"] = some false := of_decide_eq_true (c.fact 0 80)
  have n_ITEMS : PySem.W.nsIn K mainGlobals "ITEMS" = some (some (.int 12 (tkG K "ITEMS"))) := of_decide_eq_true (c.fact 0 81)
  have n_LEVEL : PySem.W.nsIn K mainGlobals "LEVEL" = some (some (.int 1000000000000 (tkG K "LEVEL"))) := of_decide_eq_true (c.fact 0 82)
  have n_DIGITS : PySem.W.nsIn K mainGlobals "DIGITS" = some (some (.int 13 (tkG K "DIGITS"))) := of_decide_eq_true (c.fact 0 83)
  have z1 : PySem.W.nsIn K mainGlobals "len" = some none := of_decide_eq_true (c.fact 0 84)
  have z2 : PySem.W.nsIn K mainGlobals "list" = some none := of_decide_eq_true (c.fact 0 85)
  have z3 : PySem.W.nsIn K mainGlobals "int" = some none := of_decide_eq_true (c.fact 0 86)
  have z4 : PySem.W.nsIn K mainGlobals "range" = some none := of_decide_eq_true (c.fact 0 87)
  have z5 : PySem.W.nsIn K mainGlobals "sorted" = some none := of_decide_eq_true (c.fact 0 88)
  have z6 : PySem.W.nsIn K mainGlobals "set" = some none := of_decide_eq_true (c.fact 0 89)
  have z7 : PySem.W.nsIn K mainGlobals "tuple" = some none := of_decide_eq_true (c.fact 0 90)
  have z8 : PySem.W.nsIn K mainGlobals "min" = some none := of_decide_eq_true (c.fact 0 91)
  have z9 : PySem.W.nsIn K mainGlobals "max" = some none := of_decide_eq_true (c.fact 0 92)
  have z10 : PySem.W.nsIn K mainGlobals "isinstance" = some none := of_decide_eq_true (c.fact 0 93)
  have z11 : PySem.W.nsIn K mainGlobals "bool" = some none := of_decide_eq_true (c.fact 0 94)
  have z12 : PySem.W.nsIn K mainGlobals "str" = some none := of_decide_eq_true (c.fact 0 95)
  have z13 : PySem.W.nsIn K mainGlobals "all" = some none := of_decide_eq_true (c.fact 0 96)
  have z14 : PySem.W.nsIn K mainGlobals "zip" = some none := of_decide_eq_true (c.fact 0 97)
  have z15 : PySem.W.nsIn K mainGlobals "repr" = some none := of_decide_eq_true (c.fact 0 98)
  have z16 : PySem.W.nsIn K mainGlobals "enumerate" = some none := of_decide_eq_true (c.fact 0 99)
  have z17 : PySem.W.nsIn K mainGlobals "abs" = some none := of_decide_eq_true (c.fact 0 100)
  have z18 : PySem.W.nsIn K mainGlobals "sum" = some none := of_decide_eq_true (c.fact 0 101)
  have z19 : PySem.W.nsIn K mainGlobals "dict" = some none := of_decide_eq_true (c.fact 0 102)
  exact all_mk (l := PySem.Challenge.rw_mergelevels_k79_other_texts_of_tables) X G hfa a1 l1 cc_l1 k1 a2 l2 cc_l2 k2 a3 l3 cc_l3 k3 a4 l4 cc_l4 k4 a5 l5 cc_l5 k5 a6 l6 cc_l6 k6 a7 l7 cc_l7 k7 a8 l8 cc_l8 k8 a9 l9 cc_l9 k9 a10 l10 cc_l10 k10 a11 l11 cc_l11 k11 a12 l12 cc_l12 k12 a13 l13 cc_l13 k13 a14 l14 cc_l14 k14 a15 l15 cc_l15 k15 a16 l16 cc_l16 k16 a17 l17 cc_l17 k17 a18 l18 cc_l18 k18 a19 l19 cc_l19 k19 a20 l20 cc_l20 k20 a21 l21 cc_l21 k21 a22 l22 cc_l22 k22 a23 l23 cc_l23 k23 a24 l24 cc_l24 k24 a25 l25 cc_l25 k25 a26 l26 cc_l26 k26 a27 l27 cc_l27 k27 a28 l28 cc_l28 k28 aC_ParseError xL_ParseError sa_ParseError ga_ParseError gg_ParseError nb_ParseError in_ParseError tf_ParseError lf_ParseError cc_lf_ParseError kC_ParseError eC_ParseError tC_ParseError hC_ParseError te_ParseError ha_ParseError hn_ParseError ht_ParseError hm_ParseError aC_MergeError aC_InvalidTable aC_UnequalSizes zf_LookupError iM iA n_ITEMS n_LEVEL n_DIGITS z1 z2 z3 z4 z5 z6 z7 z8 z9 z10 z11 z12 z13 z14 z15 z16 z17 z18 z19
end Ml
open PySem PySem.W PySem.Calls PyProof.Rows
set_option maxHeartbeats 0 in
theorem PySem.Challenge.cw_mergelevels_k79_other_texts_of_tables_holds : PySem.Challenge.rw_mergelevels_k79_other_texts_of_tables.Holds := by
  w_on; o_law
  refine HandSHeadRun.head_any (r := OpenLaw.row PySem.Challenge.rw_mergelevels_k79_other_texts_of_tables) (q := view (OpenLaw.row PySem.Challenge.rw_mergelevels_k79_other_texts_of_tables).prog [38]) (H := Ml.hk) (ob := Ml.ob3 5 Ml.hfs Ml.hfn Ml.hhx) (M := 20000) (loose := Ml.hlo) (d := HandSHeadRun.topDef (OpenLaw.row PySem.Challenge.rw_mergelevels_k79_other_texts_of_tables).prog 38) (kwd := []) Ml.ob3_eq
    (by kernel_rfl) (fun s => by kernel_rfl) Ml.hrun (by kernel_rfl) (by kernel_rfl) (by kernel_rfl) (by rfl) (by first | assumption | decide +kernel) (by decide +kernel) ⟨rfl, rfl, rfl, rfl, rfl, by decide +kernel⟩ ?hw ?hc
  case hw => w_witness2
  case hc =>
    refine Ml.walk_GE (l := PySem.Challenge.rw_mergelevels_k79_other_texts_of_tables) (n := 63) (k := 10) (x := "_law_script") rfl (by decide) (by kernel_rfl) ⟨rfl, by decide, by decide⟩ ?F
    intro w mg fa h Y G hmg0
    obtain ⟨K, KX, c, ch⟩ := Y
    have hmg : mg ("law" : PySem.Str) = some (.ref fa) := by
      have e : (HandSHeadRun.topDef (OpenLaw.row PySem.Challenge.rw_mergelevels_k79_other_texts_of_tables).prog 38).name = ("law" : PySem.Str) := by kernel_rfl
      rw [← e]
      exact hmg0
    exact ⟨K, Ml.sp_law, KX, fun H a ns hl hS => ⟨a, ns, rfl, hS, hl, fun _ => rfl⟩, Ml.hfacts KX G hmg c ch⟩

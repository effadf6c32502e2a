import PyProof.Rows.All
import Wide.All
import OpenK.AllK
import Wide.FinOn
import HandS.Base
import HandS.Call
import HandS.List
import HandS.Comp
import HandS.Ends
import HandS.Iter
import HandS.NoneIn
import HandS.SetFor
import HandS.IsInst
import HandS.Zip
import HandS.Words
import PyProof.ReprRoads
import HandS.Style
import HandS.TupAny
import HandS.Zip0
import PyProof.Draws
import PyProof.EnumMake
import KE.GoesZip
import KE.GoesMore
import KE.KExcInit
import HandS.Exc
import HandS.ExcOwn
import HandS.WordsExc
import HandS.ExcField
import HandS.DictComp
import HandS.RaiseFrom
import KE.DataMinMax
import KE.LtData
import HandS.SortKw
import HandS.Defaults
import HandS.Star
import HandS.TupMul
import KE.KIndexOf
import HandS.Text
import HandS.StrMore
import HandS.FStr
import HandS.Replace
import KE.IntTextLaws
import HandS.Dict
import HandS.Deep
import KE.KRevSl
import PyProof.P3In
import PyProof.CallFns
import HandS.Strs
import HandS.SetBool
import HandS.SortInts
import PyProof.SetRoads
import KE.KParD
import HandS.Walk
import HandS.ReplaceLit
import PyProof.StrLawsRepr
import PyProof.ReprReads
import PyProof.ReprDict
import HandS.ReplaceList
import HandS.ReplaceDef
import KE.KExcIs
import HandS.ExcIs
import KE.GoesEnumKw
import HandS.IterVal
import HandS.TupSets
import KE.SortData
import KE.KDictZip
import HandS.RaiseMore
import HandS.TryOnly
import HandS.Property
import KE.KUnpackStar
import HandS.CallSlots
import HandS.OwnEq
import KE.KCallOwn
import HandS.Head2
import HandS.HeadEnd
import HandS.HeadHook2
import HandS.Wide
import HandS.Codes
import HandS.Conv
import HandS.Flow
import HandS.ClsMeth
import PySem.Challenge.RW_mergelevels_k80_whole_texts_there_and_ba
set_option Elab.async false
set_option linter.all false
set_option maxRecDepth 100000
set_option maxHeartbeats 4000000
namespace Ml
open PySem PySem.Spec PyProof.Rows L2
/-! ### heaps -/
def Sm (H H' : Hp) : Prop := ∀ b o, H b = some o → H' b = some o
theorem Sm.refl (H : Hp) : Sm H H := fun _ _ h => h
theorem Sm.trans {H H1 H2 : Hp} (a : Sm H H1) (b : Sm H1 H2) : Sm H H2 := fun c o h => b c o (a c o h)
theorem Sm.new {H : Hp} {p : Addr} {o : HO} (h : H p = none) : Sm H (upd H p o) := fun b x e => by
  rw [upd_ne (ne_of_none e h)]
  exact e
theorem Sm.free {H H' : Hp} (e : Sm H H') {l : Addr} (h : H' l = none) : H l = none := by
  cases q : H l with
  | none => rfl
  | some o => rw [e l o q] at h; cases h
theorem Sm.rd {H H' : Hp} {a : Addr} {u : HO} (e : Sm H H') (h : Rd H a u) : Rd H' a u := by
  rcases h with h | ⟨o, h⟩
  · exact .inl (e _ _ h)
  · exact .inr ⟨o, e _ _ h⟩
theorem Sm.sqL {K : PySem.W.Frag} {H H' : Hp} {a : Addr} {xs : List V} (e : Sm H H') (h : SqL K H a xs) : SqL K H' a xs := by
  rcases h with h | h
  · exact .inl (e.rd h)
  · exact .inr h
theorem Sm.sqT {K : PySem.W.Frag} {H H' : Hp} {a : Addr} {xs : List V} (e : Sm H H') (h : SqT K H a xs) : SqT K H' a xs := by
  rcases h with h | h
  · exact .inl (e.rd h)
  · exact .inr h
/-- all but the two places of a drawing stays -/
def Kp (d r : Addr) (H H' : Hp) : Prop := ∀ b o, H b = some o → b ≠ d → b ≠ r → H' b = some o
theorem Kp.refl (d r : Addr) (H : Hp) : Kp d r H H := fun _ _ h _ _ => h
theorem Kp.trans {d r : Addr} {H H1 H2 : Hp} (a : Kp d r H H1) (b : Kp d r H1 H2) : Kp d r H H2 := fun c o h h1 h2 => b c o (a c o h h1 h2) h1 h2
theorem Sm.kp {d r : Addr} {H H' : Hp} (a : Sm H H') : Kp d r H H' := fun c o h _ _ => a c o h
theorem Kp.new {d r : Addr} {H : Hp} {p : Addr} {o : HO} (h : H p = none) : Kp d r H (upd H p o) := (Sm.new h).kp
theorem Kp.sqL {K : PySem.W.Frag} {d r : Addr} {H H' : Hp} {a : Addr} {xs : List V} (e : Kp d r H H') (h1 : a ≠ d) (h2 : a ≠ r) (h : SqL K H a xs) : SqL K H' a xs := by
  rcases h with (h | ⟨o, h⟩) | h
  · exact .inl (.inl (e _ _ h h1 h2))
  · exact .inl (.inr ⟨o, e _ _ h h1 h2⟩)
  · exact .inr h
/-- what is drawn from: the cells, how often, the rests -/
structure Dr (H : Hp) (d c r : Addr) (n : Nat) : Prop where
  ex : ∃ (cells rests : List Int) (t : Nat), H d = some (.lst [.ref c, .int (t : Int), .ref r]) ∧ H c = some (.lst (cells.map V.int)) ∧ H r = some (.lst (rests.map V.int)) ∧
    cells.length = rests.length ∧ 0 < cells.length ∧ cells.length ≤ 64 ∧ t ≤ n ∧ ∀ x ∈ rests, 0 ≤ x
  dc : d ≠ c
  dr : d ≠ r
  cr : c ≠ r
theorem Dr.d_lst {H : Hp} {d c r : Addr} {n : Nat} (h : Dr H d c r n) : ∃ xs, H d = some (.lst xs) := by
  obtain ⟨_, _, _, h1, _⟩ := h.ex
  exact ⟨_, h1⟩
theorem Dr.r_lst {H : Hp} {d c r : Addr} {n : Nat} (h : Dr H d c r n) : ∃ xs, H r = some (.lst xs) := by
  obtain ⟨_, _, _, _, _, h1, _⟩ := h.ex
  exact ⟨_, h1⟩
theorem Dr.c_lst {H : Hp} {d c r : Addr} {n : Nat} (h : Dr H d c r n) : ∃ xs, H c = some (.lst xs) := by
  obtain ⟨_, _, _, _, h1, _⟩ := h.ex
  exact ⟨_, h1⟩
theorem Dr.mono {H : Hp} {d c r : Addr} {n m : Nat} (h : Dr H d c r n) (e : n ≤ m) : Dr H d c r m := by
  obtain ⟨⟨cs, rs, t, h1, h2, h3, h4, h5, h6, h7, h8⟩, a, b, k⟩ := h
  exact ⟨⟨cs, rs, t, h1, h2, h3, h4, h5, h6, Nat.le_trans h7 e, h8⟩, a, b, k⟩
theorem Dr.same {H H' : Hp} {d c r : Addr} {n : Nat} (h : Dr H d c r n) (e : Sm H H') : Dr H' d c r n := by
  obtain ⟨⟨cs, rs, t, h1, h2, h3, h4⟩, a, b, k⟩ := h
  exact ⟨⟨cs, rs, t, e _ _ h1, e _ _ h2, e _ _ h3, h4⟩, a, b, k⟩
/-- an object that is stored into, elsewhere -/
theorem Dr.upd {H : Hp} {d c r p : Addr} {n : Nat} {o : HO} (h : Dr H d c r n) (h1 : p ≠ d) (h2 : p ≠ c) (h3 : p ≠ r) : Dr (L2.upd H p o) d c r n := by
  obtain ⟨⟨cs, rs, t, e1, e2, e3, e4⟩, a, b, k⟩ := h
  refine ⟨⟨cs, rs, t, ?_, ?_, ?_, e4⟩, a, b, k⟩
  · rw [upd_ne h1.symm]; exact e1
  · rw [upd_ne h2.symm]; exact e2
  · rw [upd_ne h3.symm]; exact e3
theorem Dr.new {H : Hp} {d c r p : Addr} {n : Nat} {o : HO} (h : Dr H d c r n) (hp : H p = none) : Dr (L2.upd H p o) d c r n := h.same (Sm.new hp)
theorem Dr.ne {H : Hp} {d c r p : Addr} {n : Nat} (h : Dr H d c r n) (hp : H p = none) : p ≠ d ∧ p ≠ c ∧ p ≠ r := by
  obtain ⟨x, h1⟩ := h.d_lst
  obtain ⟨y, h2⟩ := h.c_lst
  obtain ⟨z, h3⟩ := h.r_lst
  exact ⟨(ne_of_none h1 hp).symm, (ne_of_none h2 hp).symm, (ne_of_none h3 hp).symm⟩
theorem Dr.kpT {K : PySem.W.Frag} {H H' : Hp} {d c r a : Addr} {n : Nat} {xs : List V} (h : Dr H d c r n) (e : Kp d r H H') (hs : SqT K H a xs) : SqT K H' a xs := by
  obtain ⟨x, h1⟩ := h.d_lst
  obtain ⟨y, h2⟩ := h.r_lst
  rcases hs with (q | ⟨o, q⟩) | q
  · exact .inl (.inl (e _ _ q (ne_of q h1 (by intro z; cases z)) (ne_of q h2 (by intro z; cases z))))
  · exact .inl (.inr ⟨o, e _ _ q (ne_of q h1 (by intro z; cases z)) (ne_of q h2 (by intro z; cases z))⟩)
  · exact .inr q
/-! ### tuples of ints, tables -/
def IT (K : PySem.W.Frag) (H : Hp) (v : V) (ns : List Int) : Prop := ∃ p, v = .ref p ∧ SqT K H p (ns.map V.int)
def Rows (K : PySem.W.Frag) (H : Hp) (vs : List V) (t : List (List Int)) : Prop := vs.length = t.length ∧ ∀ (i : Nat) v ns, vs[i]? = some v → t[i]? = some ns → IT K H v ns
def TT (K : PySem.W.Frag) (H : Hp) (v : V) (t : List (List Int)) : Prop := ∃ p vs, v = .ref p ∧ SqT K H p vs ∧ Rows K H vs t
theorem IT.same {K : PySem.W.Frag} {H H' : Hp} {v : V} {ns : List Int} (h : IT K H v ns) (e : Sm H H') : IT K H' v ns := by
  obtain ⟨p, h1, h2⟩ := h
  exact ⟨p, h1, e.sqT h2⟩
theorem Rows.same {K : PySem.W.Frag} {H H' : Hp} {vs : List V} {t : List (List Int)} (h : Rows K H vs t) (e : Sm H H') : Rows K H' vs t :=
  ⟨h.1, fun i v ns a b => (h.2 i v ns a b).same e⟩
theorem TT.same {K : PySem.W.Frag} {H H' : Hp} {v : V} {t : List (List Int)} (h : TT K H v t) (e : Sm H H') : TT K H' v t := by
  obtain ⟨p, vs, h1, h2, h3⟩ := h
  exact ⟨p, vs, h1, e.sqT h2, h3.same e⟩
theorem IT.kp {K : PySem.W.Frag} {H H' : Hp} {d c r : Addr} {n : Nat} {v : V} {ns : List Int} (h : IT K H v ns) (g : Dr H d c r n) (e : Kp d r H H') : IT K H' v ns := by
  obtain ⟨p, h1, h2⟩ := h
  exact ⟨p, h1, g.kpT e h2⟩
theorem Rows.kp {K : PySem.W.Frag} {H H' : Hp} {d c r : Addr} {n : Nat} {vs : List V} {t : List (List Int)} (h : Rows K H vs t) (g : Dr H d c r n) (e : Kp d r H H') : Rows K H' vs t :=
  ⟨h.1, fun i v ns a b => (h.2 i v ns a b).kp g e⟩
theorem TT.kp {K : PySem.W.Frag} {H H' : Hp} {d c r : Addr} {n : Nat} {v : V} {t : List (List Int)} (h : TT K H v t) (g : Dr H d c r n) (e : Kp d r H H') : TT K H' v t := by
  obtain ⟨p, vs, h1, h2, h3⟩ := h
  exact ⟨p, vs, h1, g.kpT e h2, h3.kp g e⟩
/-- stores into a list -/
theorem sqT_upd {K : PySem.W.Frag} {H : Hp} {a p : Addr} {xs ys zs : List V} (hp : H p = some (.lst ys)) (hs : SqT K H a xs) : SqT K (L2.upd H p (.lst zs)) a xs := by
  rcases hs with (q | ⟨o, q⟩) | q
  · exact .inl (.inl (by rw [upd_ne (ne_of q hp (by intro z; cases z))]; exact q))
  · exact .inl (.inr ⟨o, by rw [upd_ne (ne_of q hp (by intro z; cases z))]; exact q⟩)
  · exact .inr q
theorem IT.upd {K : PySem.W.Frag} {H : Hp} {p : Addr} {ys zs : List V} {v : V} {ns : List Int} (h : IT K H v ns) (hp : H p = some (.lst ys)) : IT K (L2.upd H p (.lst zs)) v ns := by
  obtain ⟨q, h1, h2⟩ := h
  exact ⟨q, h1, sqT_upd hp h2⟩
theorem Rows.upd {K : PySem.W.Frag} {H : Hp} {p : Addr} {ys zs : List V} {vs : List V} {t : List (List Int)} (h : Rows K H vs t) (hp : H p = some (.lst ys)) : Rows K (L2.upd H p (.lst zs)) vs t :=
  ⟨h.1, fun i v ns a b => (h.2 i v ns a b).upd hp⟩
theorem Rows.nil {K : PySem.W.Frag} {H : Hp} : Rows K H [] [] := ⟨rfl, fun i v ns a _ => by simp at a⟩
theorem Rows.snoc {K : PySem.W.Frag} {H : Hp} {vs : List V} {t : List (List Int)} {v : V} {ns : List Int} (h : Rows K H vs t) (q : IT K H v ns) : Rows K H (vs ++ [v]) (t ++ [ns]) := by
  refine ⟨by rw [List.length_append, List.length_append, h.1]; rfl, fun i u ms a b => ?_⟩
  by_cases hi : i < vs.length
  · rw [List.getElem?_append_left hi] at a
    rw [List.getElem?_append_left (by rw [← h.1]; exact hi)] at b
    exact h.2 i u ms a b
  · rw [List.getElem?_append_right (by omega)] at a
    rw [List.getElem?_append_right (by rw [← h.1]; omega), ← h.1] at b
    cases e : i - vs.length with
    | zero =>
      rw [e] at a b
      cases Option.some.inj a
      cases Option.some.inj b
      exact q
    | succ k => rw [e] at a; simp at a
theorem Rows.get {K : PySem.W.Frag} {H : Hp} {vs : List V} {t : List (List Int)} (h : Rows K H vs t) {i : Nat} (hi : i < t.length) : ∃ v p, vs[i]? = some v ∧ v = .ref p ∧ SqT K H p ((t.getD i []).map V.int) := by
  have h1 : i < vs.length := by rw [h.1]; exact hi
  have a : vs[i]? = some vs[i] := List.getElem?_eq_getElem h1
  have b : t[i]? = some t[i] := List.getElem?_eq_getElem hi
  obtain ⟨p, e, q⟩ := h.2 i _ _ a b
  refine ⟨_, p, a, e, ?_⟩
  rw [List.getD_eq_getElem?_getD, b]
  exact q
/-- a table's levels -/
def LvOk (x : Int) : Prop := 1 ≤ x ∧ x ≤ 1000000000000
def WT (t : List (List Int)) : Prop := ∀ (i : Nat) ns, t[i]? = some ns → ns.length = i ∧ ∀ x ∈ ns, LvOk x
def lev (t : List (List Int)) (i j : Nat) : Int := if i = j then 0 else (t.getD (max i j) []).getD (min i j) 0
theorem lev_comm (t : List (List Int)) (i j : Nat) : lev t i j = lev t j i := by
  unfold lev
  by_cases h : i = j
  · rw [if_pos h, if_pos h.symm]
  · rw [if_neg h, if_neg (fun e => h e.symm), Nat.max_comm, Nat.min_comm]
theorem WT.row {t : List (List Int)} (h : WT t) {i : Nat} (hi : i < t.length) : (t.getD i []).length = i ∧ ∀ x ∈ t.getD i [], LvOk x := by
  have b : t[i]? = some t[i] := List.getElem?_eq_getElem hi
  rw [List.getD_eq_getElem?_getD, b]
  exact h i _ b
theorem WT.lev {t : List (List Int)} (h : WT t) {i j : Nat} (hi : i < t.length) (hj : j < t.length) (hij : i ≠ j) : LvOk (lev t i j) := by
  unfold Ml.lev
  rw [if_neg hij]
  have hm : max i j < t.length := by omega
  obtain ⟨h1, h2⟩ := h.row hm
  have hl : min i j < (t.getD (max i j) []).length := by omega
  rw [List.getD_eq_getElem?_getD, List.getElem?_eq_getElem hl]
  exact h2 _ (List.getElem_mem hl)
theorem WT.nil : WT [] := fun i ns h => by simp at h
theorem WT.snoc {t : List (List Int)} {ns : List Int} (h : WT t) (h1 : ns.length = t.length) (h2 : ∀ x ∈ ns, LvOk x) : WT (t ++ [ns]) := by
  intro i ms q
  by_cases hi : i < t.length
  · rw [List.getElem?_append_left hi] at q
    exact h i ms q
  · rw [List.getElem?_append_right (by omega)] at q
    cases e : i - t.length with
    | zero =>
      rw [e] at q
      cases Option.some.inj q
      exact ⟨by omega, h2⟩
    | succ k => rw [e] at q; simp at q
theorem map_at {ns : List Int} {i : Nat} {x : Int} (h : ns[i]? = some x) : (ns.map V.int)[i]? = some (.int x) := by
  rw [List.getElem?_map, h]
  rfl
theorem getD_at {ns : List Int} {i : Nat} (h : i < ns.length) : ns[i]? = some (ns.getD i 0) := by
  rw [List.getD_eq_getElem?_getD, List.getElem?_eq_getElem h]
  rfl
end Ml
namespace Ml
open PySem PySem.Spec PyProof.Rows L2
theorem ixN_at {n j : Nat} (h : j < n) : ixN n (j : Int) = some j := by
  unfold ixN
  rw [if_pos (by omega), if_pos (by omega)]
  simp
end Ml
namespace Ml
open PySem PySem.Spec PyProof.Rows L2
/-! ### data at any depth -/
mutual
theorem Dp.same {K : PySem.W.Frag} {H H' : Hp} (e : Sm H H') : ∀ (d : PyData) (v : V), Dp K H v d → Dp K H' v d
  | .none, _, h => by cases h; exact .non
  | .bool b, _, h => by cases h; exact .bl b
  | .int i, _, h => by cases h; exact .int i
  | .str x, _, h => by cases h; exact .str x
  | .list ds, _, h => by
    cases h with
    | lst hs ha => exact .lst (e.sqL hs) (Dp.sameAll e ds _ ha)
  | .tuple ds, _, h => by
    cases h with
    | tup hs ha => exact .tup (e.sqT hs) (Dp.sameAll e ds _ ha)
  | .dict _, _, h => by cases h
theorem Dp.sameAll {K : PySem.W.Frag} {H H' : Hp} (e : Sm H H') : ∀ (ds : List PyData) (vs : List V), DpAll K H vs ds → DpAll K H' vs ds
  | [], _, h => by cases h; exact .nil
  | d :: ds, _, h => by
    cases h with
    | cons h1 h2 => exact .cons (Dp.same e d _ h1) (Dp.sameAll e ds _ h2)
end
theorem dp_len {K : PySem.W.Frag} {H : Hp} : ∀ {vs : List V} {ds : List PyData}, DpAll K H vs ds → vs.length = ds.length
  | [], _, h => by cases h; rfl
  | v :: vs, _, h => by
    cases h with
    | cons _ h2 => rw [List.length_cons, List.length_cons, dp_len h2]
theorem dp_at {K : PySem.W.Frag} {H : Hp} : ∀ {vs : List V} {ds : List PyData}, DpAll K H vs ds → ∀ {i : Nat} {v : V}, vs[i]? = some v → ∃ d, ds[i]? = some d ∧ Dp K H v d
  | [], _, h, i, v, e => by simp at e
  | u :: vs, _, h, i, v, e => by
    cases h with
    | cons h1 h2 =>
      cases i with
      | zero => cases Option.some.inj e; exact ⟨_, rfl, h1⟩
      | succ i => exact dp_at h2 (i := i) (by simpa using e)
theorem dp_ints {K : PySem.W.Frag} {H : Hp} : ∀ ns : List Int, DpAll K H (ns.map V.int) (ns.map PyData.int)
  | [] => .nil
  | n :: ns => .cons (.int n) (dp_ints ns)
/-- what may be compared: no lists, not too deep -/
def okD : Nat → PyData → Prop
  | _, .none => True
  | _, .bool _ => True
  | _, .int _ => True
  | _, .str _ => True
  | n + 1, .tuple ds => ds.length ≤ 1000 ∧ ∀ d ∈ ds, okD n d
  | _, _ => False
theorem okD_int (n : Nat) (i : Int) : okD n (.int i) := by cases n <;> exact trivial
theorem okD_ints (n : Nat) (ns : List Int) (h : ns.length ≤ 1000) : okD (n + 1) (.tuple (ns.map PyData.int)) := by
  refine ⟨by rw [List.length_map]; exact h, fun d hd => ?_⟩
  obtain ⟨i, _, rfl⟩ := List.mem_map.mp hd
  exact okD_int n i
theorem ty_tup {K : PySem.W.Frag} {H : Hp} {a : Addr} {xs : List V} (h : SqT K H a xs) : TyX K H (.ref a) (.type "tuple") := by
  rcases h with (h | ⟨o, h⟩) | ⟨o, its, n, h1, h2, _⟩
  · exact .base (.tup h)
  · exact .fTuple h
  · exact .kTuple h1 h2
def tyN : PyData → String
  | .none => "NoneType"
  | .bool _ => "bool"
  | .int _ => "int"
  | .str _ => "str"
  | .tuple _ => "tuple"
  | .list _ => "list"
  | .dict _ => "dict"
theorem dp_ty {K : PySem.W.Frag} {H : Hp} {n : Nat} {d : PyData} {v : V} (h : Dp K H v d) (ok : okD n d) : TyX K H v (.type (tyN d)) := by
  cases h with
  | non => exact .base .non
  | bl b => exact .base (.bl b)
  | int i => exact .base (.int i)
  | str x => exact .base (.str x)
  | lst hs ha => cases n <;> exact ok.elim
  | tup hs ha => exact ty_tup hs
end Ml
namespace Ml
open PySem PySem.Spec PyProof.Rows L2
/-! ### pairs of items -/
def prow (n i : Nat) : List (Nat × Nat) := (List.range (n - (i + 1))).map fun j => (i, i + 1 + j)
def ppre (n i : Nat) : List (Nat × Nat) := (List.range i).flatMap (prow n)
theorem ppre_succ (n i : Nat) : ppre n (i + 1) = ppre n i ++ prow n i := by
  unfold ppre
  rw [List.range_succ, List.flatMap_append]
  simp
theorem prow_len (n i : Nat) : (prow n i).length = n - (i + 1) := by
  unfold prow
  rw [List.length_map, List.length_range]
theorem prow_take (n i j : Nat) (h : j < n - (i + 1)) : (prow n i).take (j + 1) = (prow n i).take j ++ [(i, i + 1 + j)] := by
  have e : (prow n i)[j]? = some (i, i + 1 + j) := by
    unfold prow
    rw [List.getElem?_map, List.getElem?_range h]
    rfl
  rw [List.take_add_one, e]
  rfl
theorem ppre_len_le (n : Nat) : ∀ i, (ppre n i).length ≤ i * n
  | 0 => Nat.zero_le _
  | i + 1 => by
    have ih := ppre_len_le n i
    rw [ppre_succ, List.length_append, prow_len, Nat.succ_mul]
    omega
theorem mem_prow {n i a b : Nat} : (a, b) ∈ prow n i ↔ a = i ∧ i < b ∧ b < n := by
  unfold prow
  rw [List.mem_map]
  constructor
  · rintro ⟨j, hj, e⟩
    have h1 := List.mem_range.mp hj
    have e1 : i = a := congrArg Prod.fst e
    have e2 : i + 1 + j = b := congrArg Prod.snd e
    omega
  · rintro ⟨rfl, h1, h2⟩
    exact ⟨b - (a + 1), List.mem_range.mpr (by omega), by rw [show a + 1 + (b - (a + 1)) = b by omega]⟩
theorem mem_ppre {n i a b : Nat} : (a, b) ∈ ppre n i ↔ a < i ∧ a < b ∧ b < n := by
  unfold ppre
  rw [List.mem_flatMap]
  constructor
  · rintro ⟨j, hj, e⟩
    have h1 := List.mem_range.mp hj
    obtain ⟨rfl, h2, h3⟩ := mem_prow.mp e
    exact ⟨h1, h2, h3⟩
  · rintro ⟨h1, h2, h3⟩
    exact ⟨a, List.mem_range.mpr h1, mem_prow.mpr ⟨rfl, h2, h3⟩⟩
/-- the pairs as tuples in the heap -/
def Prs (K : PySem.W.Frag) (H : Hp) (vs : List V) (ps : List (Nat × Nat)) : Prop := vs.length = ps.length ∧ ∀ (i : Nat) v p, vs[i]? = some v → ps[i]? = some p → ∃ a, v = .ref a ∧ SqT K H a [.int (p.1 : Int), .int (p.2 : Int)]
theorem Prs.nil {K : PySem.W.Frag} {H : Hp} : Prs K H [] [] := ⟨rfl, fun i v p a _ => by simp at a⟩
theorem Prs.same {K : PySem.W.Frag} {H H' : Hp} {vs : List V} {ps : List (Nat × Nat)} (h : Prs K H vs ps) (e : Sm H H') : Prs K H' vs ps :=
  ⟨h.1, fun i v p a b => let ⟨q, h1, h2⟩ := h.2 i v p a b; ⟨q, h1, e.sqT h2⟩⟩
theorem Prs.upd {K : PySem.W.Frag} {H : Hp} {p : Addr} {ys zs : List V} {vs : List V} {ps : List (Nat × Nat)} (h : Prs K H vs ps) (hp : H p = some (.lst ys)) : Prs K (L2.upd H p (.lst zs)) vs ps :=
  ⟨h.1, fun i v q a b => let ⟨r, h1, h2⟩ := h.2 i v q a b; ⟨r, h1, sqT_upd hp h2⟩⟩
theorem Prs.append {K : PySem.W.Frag} {H : Hp} {vs ws : List V} {ps qs : List (Nat × Nat)} (h : Prs K H vs ps) (g : Prs K H ws qs) : Prs K H (vs ++ ws) (ps ++ qs) := by
  refine ⟨by rw [List.length_append, List.length_append, h.1, g.1], fun i u p a b => ?_⟩
  by_cases hi : i < vs.length
  · rw [List.getElem?_append_left hi] at a
    rw [List.getElem?_append_left (by rw [← h.1]; exact hi)] at b
    exact h.2 i u p a b
  · rw [List.getElem?_append_right (by omega)] at a
    rw [List.getElem?_append_right (by rw [← h.1]; omega), ← h.1] at b
    exact g.2 _ u p a b
theorem Prs.one {K : PySem.W.Frag} {H : Hp} {a : Addr} {i j : Nat} (h : SqT K H a [.int (i : Int), .int (j : Int)]) : Prs K H [.ref a] [(i, j)] := by
  refine ⟨rfl, fun k v p e1 e2 => ?_⟩
  cases k with
  | zero =>
    cases Option.some.inj e1
    cases Option.some.inj e2
    exact ⟨a, rfl, h⟩
  | succ k => simp at e1
/-! ### three levels -/
def Ev3 (a b c : Int) : Prop := (a = b ∧ c ≤ a) ∨ (a = c ∧ b ≤ a) ∨ (b = c ∧ a ≤ b)
/-- three items of a table -/
def Ev (t : List (List Int)) (i j k : Nat) : Prop := Ev3 (lev t i j) (lev t i k) (lev t j k)
def Triple (n i j k : Nat) : Prop := i < j ∧ j < k ∧ k < n
def AllEven (t : List (List Int)) : Prop := ∀ i j k, Triple t.length i j k → Ev t i j k
end Ml
namespace Ml
open PySem PySem.Spec PyProof.Rows L2
/-! ### lists of ints compared -/
theorem eqv_ints : ∀ (a b : List Int), PyData.eqvAll (a.map PyData.int) (b.map PyData.int) = decide (a = b)
  | [], [] => by simp [PyData.eqvAll]
  | [], b :: m => by simp [PyData.eqvAll]
  | a :: l, [] => by simp [PyData.eqvAll]
  | a :: l, b :: m => by
    have ih := eqv_ints l m
    simp only [List.map_cons, PyData.eqvAll, PyData.eqv, ih]
    by_cases h : a = b
    · subst h
      by_cases h2 : l = m
      · subst h2; simp
      · simp [h2]
    · simp [h]
theorem eqv_list (a b : List Int) : PyData.eqv (.list (a.map PyData.int)) (.list (b.map PyData.int)) = decide (a = b) := by
  simp only [PyData.eqv, eqv_ints]
theorem eqv_tup (a b : List Int) : PyData.eqv (.tuple (a.map PyData.int)) (.tuple (b.map PyData.int)) = decide (a = b) := by
  simp only [PyData.eqv, eqv_ints]
theorem lay_ints : ∀ ns : List Int, PyData.canLayAll0 (ns.map PyData.int) = true
  | [] => by simp [PyData.canLayAll0]
  | n :: ns => by simp [PyData.canLayAll0, PyData.canLay0, lay_ints ns]
theorem deep_ints : ∀ ns : List Int, PyData.depthAll (ns.map PyData.int) = 0
  | [] => by simp [PyData.depthAll]
  | n :: ns => by simp [PyData.depthAll, PyData.depth, deep_ints ns]
theorem shaped_list (ns : List Int) : SeqAt.shaped (.list (ns.map PyData.int)) = true := by
  show ((PyData.list (ns.map PyData.int)).canLay0 && decide ((PyData.list (ns.map PyData.int)).depth ≤ 64)) = true
  simp [PyData.canLay0, PyData.depth, lay_ints ns, deep_ints ns]
theorem shaped_tup (ns : List Int) : SeqAt.shaped (.tuple (ns.map PyData.int)) = true := by
  show ((PyData.tuple (ns.map PyData.int)).canLay0 && decide ((PyData.tuple (ns.map PyData.int)).depth ≤ 64)) = true
  simp [PyData.canLay0, PyData.depth, lay_ints ns, deep_ints ns]
/-! ### what being nested means -/
def Ultra (t : List (List Int)) : Prop := ∀ i j k, i < t.length → j < t.length → k < t.length → lev t i k ≤ max (lev t i j) (lev t j k)
theorem lev_self (t : List (List Int)) (i : Nat) : lev t i i = 0 := by
  unfold lev
  rw [if_pos rfl]
theorem lev_nn {t : List (List Int)} (h : WT t) {i j : Nat} (hi : i < t.length) (hj : j < t.length) : 0 ≤ lev t i j := by
  by_cases e : i = j
  · rw [e, lev_self]
    exact Int.le_refl 0
  · have := (h.lev hi hj e).1
    omega
theorem Ev.sym {t : List (List Int)} {i j k : Nat} (h : Ev t i j k) : lev t i k ≤ max (lev t i j) (lev t j k) ∧ lev t i j ≤ max (lev t i k) (lev t j k) ∧ lev t j k ≤ max (lev t i j) (lev t i k) := by
  unfold Ev Ev3 at h
  omega
theorem ultra_of_even {t : List (List Int)} (hW : WT t) (h : AllEven t) : Ultra t := by
  intro i j k hi hj hk
  have n1 := lev_nn hW hi hj
  have n2 := lev_nn hW hj hk
  by_cases e1 : i = j
  · subst e1
    rw [lev_self]
    omega
  by_cases e2 : j = k
  · subst e2
    rw [lev_self]
    omega
  by_cases e3 : i = k
  · subst e3
    rw [lev_self]
    omega
  have c1 := lev_comm t j i
  have c2 := lev_comm t k j
  have c3 := lev_comm t k i
  have key : ∀ a b c, Triple t.length a b c → _ := fun a b c hT => (h a b c hT).sym
  unfold Triple at key
  rcases Nat.lt_or_gt_of_ne e1 with a | a <;> rcases Nat.lt_or_gt_of_ne e2 with b | b <;> rcases Nat.lt_or_gt_of_ne e3 with c | c
  · have := key i j k ⟨a, b, hk⟩; omega
  · omega
  · have := key i k j ⟨c, b, hj⟩; omega
  · have := key k i j ⟨c, a, hj⟩; omega
  · have := key j i k ⟨a, c, hk⟩; omega
  · have := key j k i ⟨b, c, hi⟩; omega
  · omega
  · have := key k j i ⟨b, a, hi⟩; omega
theorem even_of_ultra {t : List (List Int)} (h : Ultra t) : AllEven t := by
  intro i j k ⟨h1, h2, h3⟩
  have a := h i j k (by omega) (by omega) h3
  have b := h i k j (by omega) h3 (by omega)
  have c := h j i k (by omega) (by omega) h3
  rw [lev_comm t k j] at b
  rw [lev_comm t j i] at c
  unfold Ev Ev3
  omega
theorem lev_mem {t : List (List Int)} (hW : WT t) {i j : Nat} (hi : i < t.length) (hj : j < t.length) (hij : i ≠ j) : lev t i j ∈ t.flatten := by
  have hm : max i j < t.length := by omega
  obtain ⟨h1, h2⟩ := hW.row hm
  have hl : min i j < (t.getD (max i j) []).length := by omega
  unfold lev
  rw [if_neg hij]
  refine List.mem_flatten.mpr ⟨t.getD (max i j) [], ?_, ?_⟩
  · rw [List.getD_eq_getElem?_getD, List.getElem?_eq_getElem hm]
    exact List.getElem_mem hm
  · exact List.mem_of_getElem? (getD_at hl)
end Ml
namespace Ml
open PySem PySem.Spec PyProof.Rows L2
/-! ### lowest ways -/
def fw (f : Nat → Nat → Int) : Nat → Nat → Nat → Int
  | 0, i, j => f i j
  | k + 1, i, j => min (fw f k i j) (max (fw f k i k) (fw f k k j))
theorem fw_le {f : Nat → Nat → Int} : ∀ (k i j : Nat), fw f k i j ≤ f i j
  | 0, i, j => Int.le_refl _
  | k + 1, i, j => by
    have := fw_le (f := f) k i j
    show min (fw f k i j) (max (fw f k i k) (fw f k k j)) ≤ f i j
    omega
theorem fw_nn {f : Nat → Nat → Int} {n : Nat} (h : ∀ i j, i < n → j < n → 0 ≤ f i j) : ∀ (k i j : Nat), k ≤ n → i < n → j < n → 0 ≤ fw f k i j
  | 0, i, j, _, hi, hj => h i j hi hj
  | k + 1, i, j, hk, hi, hj => by
    have a := fw_nn h k i j (by omega) hi hj
    have b := fw_nn h k i k (by omega) hi (by omega)
    have c := fw_nn h k k j (by omega) (by omega) hj
    show 0 ≤ min (fw f k i j) (max (fw f k i k) (fw f k k j))
    omega
theorem fw_sym {f : Nat → Nat → Int} (h : ∀ i j, f i j = f j i) : ∀ (k i j : Nat), fw f k i j = fw f k j i
  | 0, i, j => h i j
  | k + 1, i, j => by
    have a := fw_sym h k i j
    have b := fw_sym h k i k
    have c := fw_sym h k k j
    show min (fw f k i j) (max (fw f k i k) (fw f k k j)) = min (fw f k j i) (max (fw f k j k) (fw f k k i))
    omega
theorem fw_diag {f : Nat → Nat → Int} {n : Nat} (h : ∀ i j, i < n → j < n → 0 ≤ f i j) (h0 : ∀ i, f i i = 0) (k i : Nat) (hk : k ≤ n) (hi : i < n) : fw f k i i = 0 := by
  have a := fw_nn h k i i hk hi hi
  have b := fw_le (f := f) k i i
  rw [h0 i] at b
  omega
/-- the middle's own rows and columns stay -/
theorem fw_row {f : Nat → Nat → Int} {n : Nat} (h : ∀ i j, i < n → j < n → 0 ≤ f i j) (h0 : ∀ i, f i i = 0) (k i : Nat) (hk : k < n) (hi : i < n) : fw f (k + 1) i k = fw f k i k ∧ fw f (k + 1) k i = fw f k k i := by
  have a := fw_nn h k i k (by omega) hi hk
  have b := fw_nn h k k i (by omega) hk hi
  have c := fw_diag h h0 k k (by omega) hk
  constructor
  · show min (fw f k i k) (max (fw f k i k) (fw f k k k)) = _
    omega
  · show min (fw f k k i) (max (fw f k k k) (fw f k k i)) = _
    omega
theorem fw_tri {f : Nat → Nat → Int} {n : Nat} (h : ∀ i j, i < n → j < n → 0 ≤ f i j) (h0 : ∀ i, f i i = 0) : ∀ (k : Nat), k ≤ n → ∀ i j m, i < n → j < n → m < k → fw f k i j ≤ max (fw f k i m) (fw f k m j)
  | 0, _, i, j, m, _, _, hm => absurd hm (Nat.not_lt_zero _)
  | k + 1, hk, i, j, m, hi, hj, hm => by
    have ih := fw_tri h h0 k (by omega)
    by_cases e : m = k
    · subst e
      have a := fw_row h h0 m i (by omega) hi
      have b := fw_row h h0 m j (by omega) hj
      rw [a.1, b.2]
      show min (fw f m i j) (max (fw f m i m) (fw f m m j)) ≤ _
      omega
    · have hm' : m < k := by omega
      have a := ih i j m hi hj hm'
      have b := ih k j m (by omega) hj hm'
      have c := ih i k m hi (by omega) hm'
      show min (fw f k i j) (max (fw f k i k) (fw f k k j)) ≤ max (min (fw f k i m) (max (fw f k i k) (fw f k k m))) (min (fw f k m j) (max (fw f k m k) (fw f k k j)))
      omega
/-- walks with steps at most h -/
inductive Wk (f : Nat → Nat → Int) (n : Nat) (h : Int) (i : Nat) : Nat → Prop
  | refl : Wk f n h i i
  | step {j k : Nat} : Wk f n h i j → j < n → k < n → f j k ≤ h → Wk f n h i k
theorem Wk.mono {f : Nat → Nat → Int} {n : Nat} {h h' : Int} {i j : Nat} (w : Wk f n h i j) (e : h ≤ h') : Wk f n h' i j := by
  induction w with
  | refl => exact .refl
  | step _ a b c ih => exact ih.step a b (Int.le_trans c e)
theorem Wk.trans {f : Nat → Nat → Int} {n : Nat} {h : Int} {i j k : Nat} (w : Wk f n h i j) (v : Wk f n h j k) : Wk f n h i k := by
  induction v with
  | refl => exact w
  | step _ a b c ih => exact ih.step a b c
theorem fw_walk {f : Nat → Nat → Int} {n : Nat} : ∀ (k i j : Nat), k ≤ n → i < n → j < n → Wk f n (fw f k i j) i j
  | 0, i, j, _, hi, hj => Wk.refl.step hi hj (Int.le_refl _)
  | k + 1, i, j, hk, hi, hj => by
    have a := fw_walk (f := f) (n := n) k i j (by omega) hi hj
    have b := fw_walk (f := f) (n := n) k i k (by omega) hi (by omega)
    have c := fw_walk (f := f) (n := n) k k j (by omega) (by omega) hj
    show Wk f n (min (fw f k i j) (max (fw f k i k) (fw f k k j))) i j
    rcases Int.le_total (fw f k i j) (max (fw f k i k) (fw f k k j)) with z | z
    · rw [Int.min_eq_left z]
      exact a
    · rw [Int.min_eq_right z]
      exact (b.mono (by omega)).trans (c.mono (by omega))
/-! ### joining levels of a table -/
def jn (t : List (List Int)) (i j : Nat) : Int := fw (lev t) t.length i j
section
variable {t : List (List Int)} (hW : WT t)
include hW
theorem lev_nn' : ∀ i j, i < t.length → j < t.length → 0 ≤ lev t i j := fun i j hi hj => lev_nn hW hi hj
theorem jn_le (i j : Nat) : jn t i j ≤ lev t i j := fw_le _ _ _
theorem jn_nn {i j : Nat} (hi : i < t.length) (hj : j < t.length) : 0 ≤ jn t i j := fw_nn (lev_nn' hW) _ _ _ (Nat.le_refl _) hi hj
theorem jn_sym (i j : Nat) : jn t i j = jn t j i := fw_sym (lev_comm t) _ _ _
theorem jn_diag {i : Nat} (hi : i < t.length) : jn t i i = 0 := fw_diag (lev_nn' hW) (lev_self t) _ _ (Nat.le_refl _) hi
theorem jn_tri {i j k : Nat} (hi : i < t.length) (hj : j < t.length) (hk : k < t.length) : jn t i j ≤ max (jn t i k) (jn t k j) := fw_tri (lev_nn' hW) (lev_self t) _ (Nat.le_refl _) i j k hi hj hk
theorem jn_walk {i j : Nat} (hi : i < t.length) (hj : j < t.length) : Wk (lev t) t.length (jn t i j) i j := fw_walk _ i j (Nat.le_refl _) hi hj
theorem walk_jn {i j : Nat} {h : Int} (hi : i < t.length) (h0 : 0 ≤ h) (w : Wk (lev t) t.length h i j) : jn t i j ≤ h := by
  induction w with
  | refl => rw [jn_diag hW hi]; exact h0
  | @step j k _ a b c ih =>
    have x := jn_tri hW hi b a
    have y := jn_le hW j k
    omega
theorem jn_pos {i j : Nat} (hi : i < t.length) (hj : j < t.length) (hij : i ≠ j) : LvOk (jn t i j) := by
  have a := jn_le hW i j
  have b := (hW.lev hi hj hij).2
  refine ⟨?_, by omega⟩
  have key : ∀ {j : Nat}, Wk (lev t) t.length 0 i j → i = j := fun w => by
    induction w with
    | refl => rfl
    | @step j k _ x y z ih =>
      subst ih
      refine Classical.byContradiction fun ne => ?_
      have := (hW.lev x y ne).1
      omega
  refine Classical.byContradiction fun lt => hij (key ((jn_walk hW hi hj).mono (by omega)))
end
/-! ### simple paths -/
def Steps (f : Nat → Nat → Int) (h : Int) (p : List Nat) : Prop := ∀ (m a b : Nat), p[m]? = some a → p[m + 1]? = some b → f a b ≤ h
end Ml
namespace Ml
open PySem PySem.Spec PyProof.Rows L2
/-! ### comprehensions over two at once -/
theorem lc_zipL {K : PySem.W.Frag} {a b : Addr} {xs ys : List V} {n : Nat} {g : TG} {tt : L2.TT} {te : TE} {vs : List Nat} {σ : L2.St} {H1 : Hp} {D : Addr} {Qd : Hp → Prop} (hn : n = min xs.length ys.length) (Pv : Nat → Hp → Prop) (h0 : Pv 0 (upd H1 D (.lst [])))
    (hq : ∀ i H, i ≤ n → Pv i H → SqL K H a xs ∧ SqL K H b ys)
    (hs : ∀ i x y T H, xs[i]? = some x → ys[i]? = some y → Pv i H → H T = none → g (.ref T) (wipe σ vs) (upd H T (.tup [x, y])) fun σ2 H2 => wipe σ2 vs = wipe σ vs ∧ tt σ2 H2 fun b H3 =>
      if b = true then te σ2 H3 fun y H4 => ∃ acc, H4 D = some (.lst acc) ∧ acc.length < sizeLine ∧ Pv (i + 1) (upd H4 D (.lst (acc ++ [y]))) else Pv (i + 1) H3) (hd : ∀ H, Pv n H → Qd H) :
    ∃ W : Nat → Nat → Hp → Prop, (∃ m, W 0 m (upd H1 D (.lst []))) ∧ ∀ i m H, W i m H →
      ((Itz K a b).stop i H ∧ Qd H) ∨ ((Itz K a b).go i H ∧ ∃ Nx : Hp → Prop, (∀ H', Nx H' → ∃ m', m' < m ∧ W (i + 1) m' H') ∧ ∀ x H', (Itz K a b).yld i H x H' → g x (wipe σ vs) H' fun σ2 H2 => wipe σ2 vs = wipe σ vs ∧ tt σ2 H2 fun b H3 =>
        if b = true then te σ2 H3 fun y H4 => ∃ acc, H4 D = some (.lst acc) ∧ acc.length < sizeLine ∧ Nx (upd H4 D (.lst (acc ++ [y]))) else Nx H3) := by
  refine ⟨fun i m H => m = n - i ∧ i ≤ n ∧ Pv i H, ⟨n, by simp, Nat.zero_le _, h0⟩, ?_⟩
  rintro i m H ⟨rfl, hi, p⟩
  obtain ⟨q1, q2⟩ := hq i H hi p
  by_cases hlt : i < n
  · have l1 : i < xs.length := by omega
    have l2 : i < ys.length := by omega
    refine .inr ⟨⟨xs, ys, _, _, q1, q2, List.getElem?_eq_getElem l1, List.getElem?_eq_getElem l2⟩, Pv (i + 1), fun H' p' => ⟨n - (i + 1), by omega, rfl, hlt, p'⟩, fun v H' y => ?_⟩
    obtain ⟨T, x, y, rfl, hT, rfl, f1, f2⟩ := y
    exact hs i x y T H (f1 xs q1) (f2 ys q2) p hT
  · have e : i = n := by omega
    subst e
    exact .inl ⟨⟨xs, ys, q1, q2, by omega⟩, hd H p⟩
/-! ### lists of lists of ints, each row its own object -/
def Rws (H : Hp) (ps : List Addr) (g : List (List Int)) : Prop := ps.length = g.length ∧ ps.Nodup ∧ ∀ (i : Nat) p ns, ps[i]? = some p → g[i]? = some ns → H p = some (.lst (ns.map V.int))
theorem Rws.same {H H' : Hp} {ps : List Addr} {g : List (List Int)} (h : Rws H ps g) (e : Sm H H') : Rws H' ps g := ⟨h.1, h.2.1, fun i p ns a b => e _ _ (h.2.2 i p ns a b)⟩
theorem Rws.nil {H : Hp} : Rws H [] [] := ⟨rfl, List.nodup_nil, fun i v ns a _ => by simp at a⟩
theorem Rws.at {H : Hp} {ps : List Addr} {g : List (List Int)} (h : Rws H ps g) {p : Addr} (hp : p ∈ ps) : ∃ ns : List Int, H p = some (.lst (ns.map V.int)) := by
  obtain ⟨i, hi, e⟩ := List.getElem_of_mem hp
  have hg : i < g.length := by rw [← h.1]; exact hi
  exact ⟨g[i], h.2.2 i p g[i] (by rw [List.getElem?_eq_getElem hi, e]) (List.getElem?_eq_getElem hg)⟩
theorem Rws.not_mem {H : Hp} {ps : List Addr} {g : List (List Int)} (h : Rws H ps g) {q : Addr} (hq : H q = none) : q ∉ ps := fun hp => by
  obtain ⟨ns, e⟩ := h.at hp
  rw [hq] at e
  cases e
/-- the list of the rows is no row -/
theorem Rws.outer {H : Hp} {ps : List Addr} {g : List (List Int)} (h : Rws H ps g) {o : Addr} (ho : H o = some (.lst (ps.map V.ref))) : o ∉ ps := fun hp => by
  obtain ⟨ns, e⟩ := h.at hp
  rw [ho] at e
  have e1 := HO.lst.inj (Option.some.inj e)
  cases ps with
  | nil => simp at hp
  | cons a b =>
    cases ns with
    | nil => simp at e1
    | cons c d => simp at e1
theorem Rws.upd {H : Hp} {ps : List Addr} {g : List (List Int)} {o : Addr} {x : HO} (h : Rws H ps g) (ho : o ∉ ps) : Rws (L2.upd H o x) ps g :=
  ⟨h.1, h.2.1, fun i p ns a b => by
    have ne : p ≠ o := fun e => ho (by rw [← e]; exact List.mem_of_getElem? a)
    rw [upd_ne ne]
    exact h.2.2 i p ns a b⟩
theorem Rws.snoc {H : Hp} {ps : List Addr} {g : List (List Int)} {q : Addr} {ns : List Int} (h : Rws H ps g) (hn : q ∉ ps) (hq : H q = some (.lst (ns.map V.int))) : Rws H (ps ++ [q]) (g ++ [ns]) := by
  refine ⟨by rw [List.length_append, List.length_append, h.1]; rfl, ?_, fun i p ms a b => ?_⟩
  · rw [List.nodup_append]
    refine ⟨h.2.1, by simp, fun a ha b hb => ?_⟩
    rw [List.mem_singleton.mp hb]
    exact fun e => hn (e ▸ ha)
  · by_cases hi : i < ps.length
    · rw [List.getElem?_append_left hi] at a
      rw [List.getElem?_append_left (by rw [← h.1]; exact hi)] at b
      exact h.2.2 i p ms a b
    · rw [List.getElem?_append_right (by omega)] at a
      rw [List.getElem?_append_right (by rw [← h.1]; omega), ← h.1] at b
      cases e : i - ps.length with
      | zero =>
        rw [e] at a b
        cases Option.some.inj a
        cases Option.some.inj b
        exact hq
      | succ k => rw [e] at a; simp at a
theorem Rws.get {H : Hp} {ps : List Addr} {g : List (List Int)} (h : Rws H ps g) {i : Nat} (hi : i < g.length) : ∃ p, ps[i]? = some p ∧ H p = some (.lst ((g.getD i []).map V.int)) := by
  have h1 : i < ps.length := by rw [h.1]; exact hi
  refine ⟨ps[i], List.getElem?_eq_getElem h1, ?_⟩
  rw [List.getD_eq_getElem?_getD, List.getElem?_eq_getElem hi]
  exact h.2.2 i _ _ (List.getElem?_eq_getElem h1) (List.getElem?_eq_getElem hi)
theorem refs_at {ps : List Addr} {i : Nat} {p : Addr} (h : ps[i]? = some p) : (ps.map V.ref)[i]? = some (.ref p) := by
  rw [List.getElem?_map, h]
  rfl
/-- a row stored into -/
theorem Rws.set {H : Hp} {ps : List Addr} {g : List (List Int)} {i : Nat} {p : Addr} {ns : List Int} (h : Rws H ps g) (hp : ps[i]? = some p) : Rws (L2.upd H p (.lst (ns.map V.int))) ps (g.set i ns) := by
  refine ⟨by rw [List.length_set]; exact h.1, h.2.1, fun j q ms a b => ?_⟩
  by_cases e : j = i
  · subst e
    rw [hp] at a
    cases Option.some.inj a
    have hl : j < g.length := by rw [← h.1]; exact (List.getElem?_eq_some_iff.mp hp).1
    rw [List.getElem?_set_self hl] at b
    cases Option.some.inj b
    exact upd_same
  · have ne : q ≠ p := fun z => by
      subst z
      have l1 := (List.getElem?_eq_some_iff.mp a)
      have l2 := (List.getElem?_eq_some_iff.mp hp)
      obtain ⟨l1, e1⟩ := l1
      obtain ⟨l2, e2⟩ := l2
      have nd := List.pairwise_iff_getElem.mp h.2.1
      rcases Nat.lt_or_gt_of_ne e with z | z
      · exact nd j i l1 l2 z (e1.trans e2.symm)
      · exact nd i j l2 l1 z (e2.trans e1.symm)
    rw [upd_ne ne]
    rw [List.getElem?_set_ne (fun z => e z.symm)] at b
    exact h.2.2 j q ms a b
/-! ### squares -/
def sqr (f : Nat → Nat → Int) (n : Nat) : List (List Int) := (List.range n).map fun i => (List.range n).map (f i)
theorem sqr_len (f : Nat → Nat → Int) (n : Nat) : (sqr f n).length = n := by
  unfold sqr
  rw [List.length_map, List.length_range]
theorem sqr_row (f : Nat → Nat → Int) {n i : Nat} (h : i < n) : (sqr f n).getD i [] = (List.range n).map (f i) := by
  unfold sqr
  rw [List.getD_eq_getElem?_getD, List.getElem?_map, List.getElem?_range h]
  rfl
theorem range_map_succ (f : Nat → Int) (n : Nat) : (List.range (n + 1)).map f = (List.range n).map f ++ [f n] := by
  rw [List.range_succ, List.map_append]
  rfl
theorem sqr_take (f : Nat → Nat → Int) {n i : Nat} (h : i < n) : (sqr f n).take (i + 1) = (sqr f n).take i ++ [(List.range n).map (f i)] := by
  have e : (sqr f n)[i]? = some ((List.range n).map (f i)) := by
    unfold sqr
    rw [List.getElem?_map, List.getElem?_range h]
    rfl
  rw [List.take_add_one, e]
  rfl
theorem range_at (f : Nat → Int) {n j : Nat} (h : j < n) : (((List.range n).map f).map V.int)[j]? = some (.int (f j)) := by
  rw [List.getElem?_map, List.getElem?_map, List.getElem?_range h]
  rfl
end Ml
namespace Ml
open PySem PySem.Spec PyProof.Rows L2
/-! ### triangles -/
def tri (F : Nat → Nat → Int) (n : Nat) : List (List Int) := (List.range n).map fun i => (List.range i).map (F i)
theorem tri_len (F : Nat → Nat → Int) (n : Nat) : (tri F n).length = n := by
  unfold tri
  rw [List.length_map, List.length_range]
theorem tri_get (F : Nat → Nat → Int) {n i : Nat} (h : i < n) : (tri F n)[i]? = some ((List.range i).map (F i)) := by
  unfold tri
  rw [List.getElem?_map, List.getElem?_range h]
  rfl
theorem tri_row (F : Nat → Nat → Int) {n i : Nat} (h : i < n) : (tri F n).getD i [] = (List.range i).map (F i) := by
  rw [List.getD_eq_getElem?_getD, tri_get F h]
  rfl
theorem tri_at (F : Nat → Nat → Int) {n i j : Nat} (h : i < n) (hj : j < i) : ((tri F n).getD i []).getD j 0 = F i j := by
  rw [tri_row F h, List.getD_eq_getElem?_getD, List.getElem?_map, List.getElem?_range hj]
  rfl
theorem tri_lev (F : Nat → Nat → Int) {n i j : Nat} (h : i < n) (hj : j < n) (hij : i ≠ j) : lev (tri F n) i j = F (max i j) (min i j) := by
  unfold lev
  rw [if_neg hij]
  exact tri_at F (by omega) (by omega)
theorem tri_congr {F G : Nat → Nat → Int} {n : Nat} (h : ∀ i j, i < n → j < i → F i j = G i j) : tri F n = tri G n := by
  unfold tri
  refine List.map_congr_left fun i hi => List.map_congr_left fun j hj => ?_
  exact h i j (List.mem_range.mp hi) (List.mem_range.mp hj)
theorem tri_lev_self {t : List (List Int)} (hW : WT t) : tri (lev t) t.length = t := by
  refine List.ext_getElem? fun i => ?_
  by_cases hi : i < t.length
  · rw [tri_get _ hi, List.getElem?_eq_getElem hi]
    congr 1
    obtain ⟨h1, h2⟩ := hW i t[i] (List.getElem?_eq_getElem hi)
    refine List.ext_getElem? fun j => ?_
    by_cases hj : j < i
    · rw [List.getElem?_map, List.getElem?_range hj, List.getElem?_eq_getElem (by omega)]
      simp only [Option.map_some, Option.some.injEq]
      unfold lev
      rw [if_neg (by omega), Nat.max_eq_left (by omega), Nat.min_eq_right (by omega), List.getD_eq_getElem?_getD, List.getD_eq_getElem?_getD, List.getElem?_eq_getElem hi]
      simp [h1, hj]
    · rw [List.getElem?_eq_none (by rw [List.length_map, List.length_range]; omega), List.getElem?_eq_none (by omega)]
  · rw [List.getElem?_eq_none (by rw [tri_len]; omega), List.getElem?_eq_none (by omega)]
theorem tri_wt {F : Nat → Nat → Int} {n : Nat} (h : ∀ i j, i < n → j < i → LvOk (F i j)) : WT (tri F n) := by
  intro i ns e
  have hi : i < n := by
    have := (List.getElem?_eq_some_iff.mp e).1
    rwa [tri_len] at this
  rw [tri_get _ hi] at e
  cases Option.some.inj e
  refine ⟨by rw [List.length_map, List.length_range], fun x hx => ?_⟩
  obtain ⟨j, hj, rfl⟩ := List.mem_map.mp hx
  exact h i j hi (List.mem_range.mp hj)
/-- the table of the joining levels -/
def jtab (t : List (List Int)) : List (List Int) := tri (jn t) t.length
theorem jtab_len (t : List (List Int)) : (jtab t).length = t.length := tri_len _ _
theorem jtab_lev {t : List (List Int)} (hW : WT t) {i j : Nat} (hi : i < t.length) (hj : j < t.length) : lev (jtab t) i j = jn t i j := by
  by_cases e : i = j
  · subst e
    rw [lev_self, jn_diag hW hi]
  · unfold jtab
    rw [tri_lev _ hi hj e]
    rcases Nat.lt_or_gt_of_ne e with z | z
    · rw [Nat.max_eq_right (by omega), Nat.min_eq_left (by omega)]
      exact jn_sym hW j i
    · rw [Nat.max_eq_left (by omega), Nat.min_eq_right (by omega)]
theorem jtab_wt {t : List (List Int)} (hW : WT t) : WT (jtab t) := tri_wt fun i j hi hj => jn_pos hW hi (by omega) (by omega)
end Ml
namespace Ml
open PySem PySem.Spec PyProof.Rows L2
/-! ### repr of data -/
/-- a row, a table as data -/
def rowD (ns : List Int) : PyData := .tuple (ns.map PyData.int)
def tabD (t : List (List Int)) : PyData := .tuple (t.map rowD)
theorem IT.dp {K : PySem.W.Frag} {H : Hp} {v : V} {ns : List Int} (h : IT K H v ns) : Dp K H v (rowD ns) := by
  obtain ⟨p, rfl, hs⟩ := h
  exact .tup hs (dp_ints ns)
theorem rows_dp {K : PySem.W.Frag} {H : Hp} : ∀ {vs : List V} {t : List (List Int)}, Rows K H vs t → DpAll K H vs (t.map rowD)
  | [], [], _ => .nil
  | [], _ :: _, h => by have := h.1; simp at this
  | _ :: _, [], h => by have := h.1; simp at this
  | v :: vs, ns :: t, h => by
    refine .cons (h.2 0 v ns rfl rfl).dp (rows_dp (vs := vs) (t := t) ⟨by have := h.1; simpa using this, fun i u ms a b => h.2 (i + 1) u ms (by simpa using a) (by simpa using b)⟩)
theorem TT.dp {K : PySem.W.Frag} {H : Hp} {v : V} {t : List (List Int)} (h : TT K H v t) : Dp K H v (tabD t) := by
  obtain ⟨p, vs, rfl, hs, hR⟩ := h
  exact .tup hs (rows_dp hR)
theorem shown_int14 {i : Int} (h : i.natAbs < 10 ^ 13) : (PyData.shown (.int i)).length ≤ 14 := by
  have e := int_text_length_le10 (k := 13) (by decide) h
  show (Str.ofString (toString i)).length ≤ 14
  rw [PySem.ofString_length]
  exact e
theorem WT.mem {t : List (List Int)} (h : WT t) : ∀ ns ∈ t, ∀ x ∈ ns, LvOk x := fun ns hns => by
  obtain ⟨i, hi, ei⟩ := List.getElem_of_mem hns
  exact (h i ns (by rw [List.getElem?_eq_getElem hi, ei])).2
theorem dep_ints : ∀ ns : List Int, PyData.depthAll (ns.map PyData.int) = 0
  | [] => by simp [PyData.depthAll]
  | n :: ns => by simp [PyData.depthAll, PyData.depth, dep_ints ns]
theorem dep_rows : ∀ t : List (List Int), PyData.depthAll (t.map rowD) ≤ 1
  | [] => by simp [PyData.depthAll]
  | n :: ns => by
    have h1 := dep_ints n
    have h2 := dep_rows ns
    simp only [List.map_cons, PyData.depthAll, rowD, PyData.depth, h1]
    omega
theorem okD_tab {n : Nat} {t : List (List Int)} (h : WT t) (h20 : t.length ≤ 20) : okD (n + 2) (tabD t) := by
  refine ⟨by rw [List.length_map]; omega, fun d hd => ?_⟩
  obtain ⟨ns, hns, rfl⟩ := List.mem_map.mp hd
  obtain ⟨i, hi, ei⟩ := List.getElem_of_mem hns
  have := (h i ns (by rw [List.getElem?_eq_getElem hi, ei])).1
  exact okD_ints n ns (by omega)
/-! ### a def that is called where nothing is being shown -/
structure GOk (P : Program) (w : World) (K : PySem.W.Frag) (mg : Str → Option Value) (base : Heap) (k : Nat) (f : Addr) (fd : FuncData) (ps : List Str) (sp : Sp) : Prop where
  len : ∀ vs H Q E, sp vs H Q E → vs.length = ps.length
  go : ∀ (A : Around) (outer : List Env) (s : Shared) (H : Hp) (args : Args) (us : List Value) (vs : List V) (Q : VK) (E : XK), A.guards = some [] → Room k A → Env0 P w K mg base A outer s H → BindsTo s fd args (ps.zip us) → Vals vs us → sp vs H Q E →
    codeAny (model P w) A (.call (.ref f) args) (CR CX0 outer P w H s Q E) s
/-! ### the law's own call -/
end Ml
namespace Ml
open PySem PySem.Spec PyProof.Rows L2
/-! ### all paths -/
theorem nodup_len : ∀ (n : Nat) (s : List Nat), s.Nodup → (∀ x ∈ s, x < n) → s.length ≤ n
  | 0, s, _, h => by
    cases s with
    | nil => exact Nat.le_refl _
    | cons a b => exact absurd (h a List.mem_cons_self) (Nat.not_lt_zero _)
  | n + 1, s, nd, h => by
    by_cases hm : n ∈ s
    · have ih := nodup_len n (s.erase n) (nd.erase n) fun x hx => by
        have h1 := nd.mem_erase_iff.mp hx
        have := h x h1.2
        have := h1.1
        omega
      have := List.length_erase_of_mem hm
      omega
    · have ih := nodup_len n s nd fun x hx => by
        have := h x hx
        have : x ≠ n := fun e => hm (e ▸ hx)
        omega
      omega
def kids (n : Nat) (s : List Nat) : List (List Nat) := ((List.range n).filter fun x => decide (x ∉ s)).map fun x => s ++ [x]
/-! ### heights -/
/-! ### rows put together -/
theorem Rows.append {K : PySem.W.Frag} {H : Hp} {vs us : List V} {t t' : List (List Int)} (h : Rows K H vs t) (h' : Rows K H us t') : Rows K H (vs ++ us) (t ++ t') := by
  refine ⟨by rw [List.length_append, List.length_append, h.1, h'.1], fun i u ms a b => ?_⟩
  by_cases hi : i < vs.length
  · rw [List.getElem?_append_left hi] at a
    rw [List.getElem?_append_left (by rw [← h.1]; exact hi)] at b
    exact h.2 i u ms a b
  · rw [List.getElem?_append_right (by omega)] at a
    rw [List.getElem?_append_right (by rw [← h.1]; omega), ← h.1] at b
    exact h'.2 _ u ms a b
theorem Rows.mem {K : PySem.W.Frag} {H : Hp} {vs : List V} {t : List (List Int)} (h : Rows K H vs t) {i : Nat} {v : V} (e : vs[i]? = some v) : ∃ ns, t[i]? = some ns ∧ IT K H v ns := by
  have h1 := (List.getElem?_eq_some_iff.mp e).1
  have h2 : i < t.length := by rw [← h.1]; exact h1
  exact ⟨t[i], List.getElem?_eq_getElem h2, h.2 i v _ e (List.getElem?_eq_getElem h2)⟩
/-- paths as rows -/
abbrev iL (p : List Nat) : List Int := p.map fun i : Nat => (i : Int)
theorem lay_rows : ∀ t : List (List Int), PyData.canLayAll0 (t.map rowD) = true
  | [] => by simp [PyData.canLayAll0]
  | n :: ns => by simp [PyData.canLayAll0, PyData.canLay0, rowD, lay_ints n, lay_rows ns]
theorem split_last {α : Type} (l : List α) (h : l ≠ []) : ∃ r x, l = r ++ [x] := ⟨l.dropLast, l.getLast h, (List.dropLast_concat_getLast h).symm⟩
theorem any_nI (k : Nat) : ∀ s : List Nat, inV (.int (k : Int)) (s.map fun i : Nat => V.int (i : Int)) = decide (k ∈ s)
  | [] => by simp [inV]
  | a :: s => by
    have ih := any_nI k s
    unfold inV at ih ⊢
    rw [List.map_cons, List.any_cons, ih]
    show (((a : Int) == (k : Int)) || decide (k ∈ s)) = _
    by_cases h : a = k
    · subst h; simp
    · have e : ((a : Int) == (k : Int)) = false := by rw [beq_eq_false_iff_ne]; omega
      rw [e]
      have h' : ¬ k = a := fun z => h z.symm
      simp [h']
end Ml
namespace Ml
open PySem PySem.Spec PyProof.Rows L2
/-! ### enumerate in a comprehension -/
theorem lc_enumL {K : PySem.W.Frag} {a : Addr} {xs : List V} {g : TG} {tt : L2.TT} {te : TE} {vs : List Nat} {σ : L2.St} {H1 : Hp} {D : Addr} {Qd : Hp → Prop} (Pv : Nat → Hp → Prop) (h0 : Pv 0 (upd H1 D (.lst [])))
    (hq : ∀ i H, i ≤ xs.length → Pv i H → SqL K H a xs)
    (hs : ∀ i x T H, xs[i]? = some x → Pv i H → H T = none → g (.ref T) (wipe σ vs) (upd H T (.tup [.int (i : Nat), x])) fun σ2 H2 => wipe σ2 vs = wipe σ vs ∧ tt σ2 H2 fun b H3 =>
      if b = true then te σ2 H3 fun y H4 => ∃ acc, H4 D = some (.lst acc) ∧ acc.length < sizeLine ∧ Pv (i + 1) (upd H4 D (.lst (acc ++ [y]))) else Pv (i + 1) H3) (hd : ∀ H, Pv xs.length H → Qd H) :
    ∃ W : Nat → Nat → Hp → Prop, (∃ m, W 0 m (upd H1 D (.lst []))) ∧ ∀ i m H, W i m H →
      ((Ite K a).stop i H ∧ Qd H) ∨ ((Ite K a).go i H ∧ ∃ Nx : Hp → Prop, (∀ H', Nx H' → ∃ m', m' < m ∧ W (i + 1) m' H') ∧ ∀ x H', (Ite K a).yld i H x H' → g x (wipe σ vs) H' fun σ2 H2 => wipe σ2 vs = wipe σ vs ∧ tt σ2 H2 fun b H3 =>
        if b = true then te σ2 H3 fun y H4 => ∃ acc, H4 D = some (.lst acc) ∧ acc.length < sizeLine ∧ Nx (upd H4 D (.lst (acc ++ [y]))) else Nx H3) := by
  refine ⟨fun i m H => m = xs.length - i ∧ i ≤ xs.length ∧ Pv i H, ⟨xs.length, by simp, Nat.zero_le _, h0⟩, ?_⟩
  rintro i m H ⟨rfl, hi, p⟩
  have q1 := hq i H hi p
  by_cases hlt : i < xs.length
  · refine .inr ⟨⟨xs, _, q1, List.getElem?_eq_getElem hlt⟩, Pv (i + 1), fun H' p' => ⟨xs.length - (i + 1), by omega, rfl, hlt, p'⟩, fun v H' y => ?_⟩
    obtain ⟨T, x, rfl, hT, rfl, f1⟩ := y
    exact hs i x T H (f1 xs q1) p hT
  · have e : i = xs.length := by omega
    subst e
    exact .inl ⟨⟨xs, q1, Nat.le_refl _⟩, hd H p⟩
/-! ### ascending lists -/
/-! ### divisions -/
def rcL (t : List (List Int)) (i : Nat) (h : Int) : List Nat := (List.range t.length).filter fun k => decide (jn t i k < h)
theorem mem_rcL {t : List (List Int)} {i k : Nat} {h : Int} : k ∈ rcL t i h ↔ k < t.length ∧ jn t i k < h := by
  unfold rcL
  rw [List.mem_filter, List.mem_range, decide_eq_true_iff]
/-- a search by lower steps -/
structure Srch (t : List (List Int)) (i : Nat) (h : Int) (L : List Nat) (m : Nat) : Prop where
  nod : L.Nodup
  ini : i ∈ L
  ok : ∀ x ∈ L, x < t.length ∧ Wk (lev t) t.length (h - 1) i x
  cl : ∀ (q x : Nat), q < m → L[q]? = some x → ∀ k, k < t.length → lev t x k < h → k ∈ L
def nearL2 (t : List (List Int)) (x : Nat) (h : Int) : List Nat := (List.range t.length).filter fun k => decide (lev t x k < h)
def fresh (t : List (List Int)) (x : Nat) (h : Int) (L : List Nat) : List Nat := (nearL2 t x h).filter fun k => decide (k ∉ L)
theorem mem_fresh {t : List (List Int)} {x : Nat} {h : Int} {L : List Nat} {k : Nat} : k ∈ fresh t x h L ↔ k < t.length ∧ lev t x k < h ∧ k ∉ L := by
  unfold fresh nearL2
  rw [List.mem_filter, List.mem_filter, List.mem_range, decide_eq_true_iff, decide_eq_true_iff]
  constructor
  · rintro ⟨⟨a, b⟩, c⟩; exact ⟨a, b, c⟩
  · rintro ⟨a, b, c⟩; exact ⟨⟨a, b⟩, c⟩
theorem Srch.step {t : List (List Int)} {i : Nat} {h : Int} {L : List Nat} {m x : Nat} (S : Srch t i h L m) (hx : L[m]? = some x) : Srch t i h (L ++ fresh t x h L) (m + 1) := by
  have hm := (List.getElem?_eq_some_iff.mp hx).1
  have hxo := S.ok x (List.mem_of_getElem? hx)
  refine ⟨?_, List.mem_append_left _ S.ini, fun y hy => ?_, fun q y hq hy k hk hl => ?_⟩
  · rw [List.nodup_append]
    refine ⟨S.nod, (List.nodup_range.filter _).filter _, fun a ha b hb e => ?_⟩
    subst e
    exact (mem_fresh.mp hb).2.2 ha
  · rcases List.mem_append.mp hy with hy | hy
    · exact S.ok y hy
    · obtain ⟨a, b, c⟩ := mem_fresh.mp hy
      exact ⟨a, hxo.2.step hxo.1 a (by omega)⟩
  · by_cases hkL : k ∈ L
    · exact List.mem_append_left _ hkL
    · by_cases e : q = m
      · subst e
        rw [List.getElem?_append_left hm, hx] at hy
        cases Option.some.inj hy
        exact List.mem_append_right _ (mem_fresh.mpr ⟨hk, hl, hkL⟩)
      · rw [List.getElem?_append_left (by omega)] at hy
        exact absurd (S.cl q y (by omega) hy k hk hl) hkL
theorem Srch.done {t : List (List Int)} (hW : WT t) {i : Nat} {h : Int} {L : List Nat} (h1 : 1 ≤ h) (S : Srch t i h L L.length) (k : Nat) : k ∈ L ↔ k ∈ rcL t i h := by
  have hi := (S.ok i S.ini).1
  rw [mem_rcL]
  constructor
  · intro hk
    obtain ⟨a, b⟩ := S.ok k hk
    have := walk_jn hW hi (by omega) b
    exact ⟨a, by omega⟩
  · rintro ⟨a, b⟩
    have w := (jn_walk hW hi a).mono (show jn t i k ≤ h - 1 by omega)
    have key : ∀ {k : Nat}, Wk (lev t) t.length (h - 1) i k → k ∈ L := fun w => by
      induction w with
      | refl => exact S.ini
      | @step j k _ hj hk hl ih =>
        obtain ⟨q, hq, e⟩ := List.getElem_of_mem ih
        exact S.cl q j hq (by rw [List.getElem?_eq_getElem hq, e]) k hk (by omega)
    exact key w
theorem Srch.len {t : List (List Int)} {i : Nat} {h : Int} {L : List Nat} {m : Nat} (S : Srch t i h L m) : L.length ≤ t.length := nodup_len _ L S.nod fun x hx => (S.ok x hx).1
/-! ### widths -/
theorem cross {f : Nat → Nat → Int} {n : Nat} {h : Int} {i j : Nat} {S : Nat → Prop} (w : Wk f n h i j) (hi : S i) (hj : ¬ S j) : ∃ a b, a < n ∧ b < n ∧ S a ∧ ¬ S b ∧ f a b ≤ h := by
  induction w with
  | refl => exact absurd hi hj
  | @step j k _ a b c ih =>
    by_cases e : S j
    · exact ⟨j, k, a, b, e, hj, c⟩
    · exact ih e
end Ml
namespace Ml
open PySem PySem.Spec PyProof.Rows L2
section
variable {X : Cx}
/-- t + u: some tuple of both -/
def rCatW (K : PySem.W.Frag) : R2 := fun x y H Q => ∃ a b xs ys, x = .ref a ∧ y = .ref b ∧ SqT K H a xs ∧ SqT K H b ys ∧ xs.length + ys.length ≤ sizeLine ∧ ∀ p H', Sm H H' → SqT K H' p (xs ++ ys) → Q (.ref p) H'
theorem op_catW : OpR X (binaryOp .Add) (rCatW X.K) := by
  intro pins s σ H x y v u Q I rx ry h
  obtain ⟨a, b, xs, ys, e1, e2, ha, hb, hz, q⟩ := h
  refine op_catA pins s σ H x y v u Q I rx ry ⟨a, b, xs, ys, e1, e2, ha, hb, hz, fun e => ?_, fun _ e => ?_, fun _ _ p hp => ?_⟩
  · rw [e, List.nil_append] at q
    exact q b H (Sm.refl H) hb
  · rw [e, List.append_nil] at q
    exact q a H (Sm.refl H) ha
  · exact q p _ (Sm.new hp) (SqT.of upd_same)
/-- t[lo:hi]: some tuple of these -/
def rSlW (K : PySem.W.Frag) : V → Option Int → Option Int → Hp → VK → Prop := fun x lo hi H Q => ∃ a xs, x = .ref a ∧ SqT K H a xs ∧ ∀ p H', Sm H H' → SqT K H' p (cutV xs lo hi) → Q (.ref p) H'
theorem sl_tupW : SlR X (rSlW X.K) := by
  intro pins s σ H x v vl vu lo hi sl Q I rx hs pl pu h
  obtain ⟨a, xs, e1, ha, q⟩ := h
  refine sl_tupA pins s σ H x v vl vu lo hi sl Q I rx hs pl pu ⟨a, xs, e1, ha, fun e => ?_, fun _ p hp => ?_⟩
  · refine q a H (Sm.refl H) ?_
    have e3 : cutV xs lo hi = xs := by
      unfold cutV
      rw [e.1, e.2, List.drop_zero, Nat.sub_zero, List.take_length]
    rw [e3]
    exact ha
  · exact q p _ (Sm.new hp) (SqT.of upd_same)
end
theorem cut_to (xs : List V) (k : Nat) : cutV xs none (some (k : Int)) = xs.take k := by
  unfold cutV
  rw [HT.sIx_none, HT.sIx_nat, List.drop_zero, Nat.sub_zero]
  by_cases h : k ≤ xs.length
  · rw [Nat.min_eq_left h]
  · rw [Nat.min_eq_right (by omega), List.take_length, List.take_of_length_le (by omega)]
theorem cut_from (xs : List V) (k : Nat) : cutV xs (some (k : Int)) none = xs.drop k := by
  unfold cutV
  rw [HT.sIx_none, HT.sIx_nat]
  by_cases h : k ≤ xs.length
  · rw [Nat.min_eq_left h]
    exact List.take_of_length_le (by rw [List.length_drop]; omega)
  · rw [Nat.min_eq_right (by omega), List.drop_length, List.drop_of_length_le (by omega), List.take_nil]
theorem set_parts {α : Type} (xs : List α) (i : Nat) (v : α) (h : i < xs.length) : xs.take i ++ [v] ++ xs.drop (i + 1) = xs.set i v := by
  rw [List.set_eq_take_append_cons_drop, if_pos h, List.append_assoc]
  rfl
theorem Rows.set {K : PySem.W.Frag} {H : Hp} {vs : List V} {t : List (List Int)} {i : Nat} {v : V} {ns : List Int} (h : Rows K H vs t) (q : IT K H v ns) : Rows K H (vs.set i v) (t.set i ns) := by
  refine ⟨by rw [List.length_set, List.length_set]; exact h.1, fun j u ms a b => ?_⟩
  by_cases e : i = j
  · subst e
    rw [List.getElem?_set_self'] at a b
    cases e1 : vs[i]? with
    | none => rw [e1] at a; cases a
    | some z =>
      cases e2 : t[i]? with
      | none => rw [e2] at b; cases b
      | some y =>
        rw [e1] at a
        rw [e2] at b
        cases Option.some.inj a
        cases Option.some.inj b
        exact q
  · rw [List.getElem?_set_ne e] at a b
    exact h.2 j u ms a b
theorem WT.set {t : List (List Int)} {i : Nat} {ns : List Int} (h : WT t) (h1 : ns.length = i) (h2 : ∀ x ∈ ns, LvOk x) : WT (t.set i ns) := by
  intro j ms q
  by_cases e : i = j
  · subst e
    rw [List.getElem?_set_self'] at q
    cases e1 : t[i]? with
    | none => rw [e1] at q; cases q
    | some z =>
      rw [e1] at q
      cases Option.some.inj q
      exact ⟨h1, h2⟩
  · rw [List.getElem?_set_ne e] at q
    exact h j ms q
end Ml
namespace Ml
open PySem PySem.Spec PyProof.Rows L2
/-! ### one level replaced -/
def wL (t : List (List Int)) (a b : Nat) (x : Int) : List (List Int) := t.set (max a b) ((t.getD (max a b) []).set (min a b) x)
/-- the detour -/
def dt (t : List (List Int)) (a b : Nat) : Int := jn (wL t a b 1000000000000) a b
section
variable {t : List (List Int)} (hW : WT t) {a b : Nat} (ha : a < t.length) (hb : b < t.length) (hab : a ≠ b)
include hW ha hb hab
theorem jn_mono {u : List (List Int)} (hu : WT u) (hl : u.length = t.length) (h : ∀ i j, i < t.length → j < t.length → lev t i j ≤ lev u i j) : jn t a b ≤ jn u a b := by
  have w := jn_walk hu (i := a) (j := b) (by omega) (by omega)
  refine walk_jn hW ha (jn_nn hu (by omega) (by omega)) ?_
  have key : ∀ {k : Nat}, Wk (lev u) u.length (jn u a b) a k → Wk (lev t) t.length (jn u a b) a k := fun w => by
    induction w with
    | refl => exact .refl
    | @step j k _ hj hk hs ih => exact ih.step (by omega) (by omega) (Int.le_trans (h j k (by omega) (by omega)) hs)
  exact key w
end
end Ml
namespace Ml
open PySem PySem.Spec PyProof.Rows L2
/-! ### the nested table below a table -/
theorem ultra_jn {u : List (List Int)} (hW : WT u) (h : Ultra u) {i j : Nat} (hi : i < u.length) (hj : j < u.length) : jn u i j = lev u i j := by
  refine Int.le_antisymm (jn_le hW i j) ?_
  have nn := jn_nn hW hi hj
  have key : ∀ {k : Nat}, Wk (lev u) u.length (jn u i j) i k → k < u.length → lev u i k ≤ jn u i j := fun w => by
    induction w with
    | refl => intro _; rw [lev_self]; exact nn
    | @step a b _ ha hb hs ih =>
      intro _
      have := h i a b hi ha hb
      have := ih ha
      omega
  exact key (jn_walk hW hi hj) hj
theorem jtab_ultra {t : List (List Int)} (hW : WT t) : Ultra (jtab t) := by
  intro i j k hi hj hk
  rw [jtab_len] at hi hj hk
  rw [jtab_lev hW hi hk, jtab_lev hW hi hj, jtab_lev hW hj hk]
  exact jn_tri hW hi hk hj
theorem jtab_of_ultra {u : List (List Int)} (hW : WT u) (h : Ultra u) : jtab u = u := by
  have e : jtab u = tri (lev u) u.length := tri_congr fun i j hi hj => ultra_jn hW h hi (by omega)
  rw [e, tri_lev_self hW]
theorem jtab_jtab {t : List (List Int)} (hW : WT t) : jtab (jtab t) = jtab t := jtab_of_ultra (jtab_wt hW) (jtab_ultra hW)
/-! ### tables made place by place -/
theorem jn_mono' {t u : List (List Int)} (hW : WT t) (hu : WT u) (hl : u.length = t.length) (h : ∀ i j, i < t.length → j < t.length → lev t i j ≤ lev u i j) {i j : Nat} (hi : i < t.length) (hj : j < t.length) : jn t i j ≤ jn u i j := by
  by_cases e : i = j
  · subst e
    rw [jn_diag hW hi, jn_diag hu (by omega)]
    exact Int.le_refl _
  · exact jn_mono hW hi hj e hu hl h
/-! ### other names -/
abbrev oA (os : List Nat) (i : Nat) : Nat := os.getD i 0
structure Orr (os : List Nat) (n : Nat) : Prop where
  len : os.length = n
  lt : ∀ i, i < n → oA os i < n
  inj : ∀ i j, i < n → j < n → oA os i = oA os j → i = j
  sur : ∀ x, x < n → ∃ i, i < n ∧ oA os i = x
theorem Orr.of {os : List Nat} {n : Nat} (h : os.Perm (List.range n)) : Orr os n := by
  have hl := h.length_eq
  rw [List.length_range] at hl
  have nd : os.Nodup := h.nodup_iff.mpr List.nodup_range
  have at_ : ∀ i, (hi : i < n) → oA os i = os[i]'(by omega) := fun i hi => by
    unfold oA
    rw [List.getD_eq_getElem?_getD, List.getElem?_eq_getElem (by omega)]
    rfl
  refine ⟨hl, fun i hi => ?_, fun i j hi hj e => ?_, fun x hx => ?_⟩
  · rw [at_ i hi]
    exact List.mem_range.mp (h.mem_iff.mp (List.getElem_mem _))
  · rw [at_ i hi, at_ j hj] at e
    have pw := List.pairwise_iff_getElem.mp nd
    rcases Nat.lt_trichotomy i j with z | z | z
    · exact absurd e (pw i j (by omega) (by omega) z)
    · exact z
    · exact absurd e.symm (pw j i (by omega) (by omega) z)
  · obtain ⟨i, hi, e⟩ := List.getElem_of_mem (h.mem_iff.mpr (List.mem_range.mpr hx))
    exact ⟨i, by omega, by rw [at_ i (by omega), e]⟩
/-! ### other levels in the same order -/
/-! ### planted tables -/
inductive EW (E : List (Nat × Nat)) (f : Nat → Nat → Int) (h : Int) (i : Nat) : Nat → Prop
  | refl : EW E f h i i
  | step {j k : Nat} : EW E f h i j → ((j, k) ∈ E ∨ (k, j) ∈ E) → f j k ≤ h → EW E f h i k
theorem EW.mono {E E' : List (Nat × Nat)} {f f' : Nat → Nat → Int} {h h' : Int} {i j : Nat} (w : EW E f h i j) (hE : ∀ e ∈ E, e ∈ E') (hf : ∀ a b, (a, b) ∈ E ∨ (b, a) ∈ E → f' a b = f a b) (hh : h ≤ h') : EW E' f' h' i j := by
  induction w with
  | refl => exact .refl
  | @step a b _ e hs ih =>
    refine ih.step (e.elim (fun z => .inl (hE _ z)) (fun z => .inr (hE _ z))) ?_
    rw [hf a b e]
    omega
structure Plant (t : List (List Int)) (E : List (Nat × Nat)) : Prop where
  wt : WT t
  ult : Ultra t
  ed : ∀ a b, (a, b) ∈ E → a < b ∧ b < t.length
  wk : ∀ i j, i < t.length → j < t.length → EW E (lev t) (lev t i j) i j
theorem Plant.one : Plant [[]] [] := by
  refine ⟨WT.nil.snoc rfl (fun x hx => by simp at hx), fun i j k hi hj hk => ?_, fun a b h => by simp at h, fun i j hi hj => ?_⟩
  · have h1 : i = 0 := by simp at hi; exact hi
    have h2 : j = 0 := by simp at hj; exact hj
    have h3 : k = 0 := by simp at hk; exact hk
    subst h1 h2 h3
    rw [lev_self]
    omega
  · have h1 : i = 0 := by simp at hi; exact hi
    have h2 : j = 0 := by simp at hj; exact hj
    subst h1 h2
    exact .refl
/-- levels that are kept along the edges and not lower elsewhere -/
theorem Plant.below {t u : List (List Int)} {E : List (Nat × Nat)} (P : Plant t E) (hu : WT u) (hl : u.length = t.length) (he : ∀ a b, (a, b) ∈ E → lev u a b = lev t a b) (hge : ∀ i j, i < t.length → j < t.length → lev t i j ≤ lev u i j) : jtab u = t := by
  have e : jtab u = tri (lev t) t.length := by
    show tri (jn u) u.length = _
    rw [hl]
    refine tri_congr fun i j hi hj => Int.le_antisymm ?_ ?_
    · refine walk_jn hu (by omega) (lev_nn P.wt hi (by omega)) ?_
      have key : ∀ {k : Nat}, EW E (lev t) (lev t i j) i k → Wk (lev u) u.length (lev t i j) i k := fun w => by
        induction w with
        | refl => exact .refl
        | @step a b _ e hs ih =>
          rcases e with e | e
          · have := P.ed a b e
            exact ih.step (by omega) (by omega) (by rw [he a b e]; exact hs)
          · have := P.ed b a e
            exact ih.step (by omega) (by omega) (by rw [lev_comm, he b a e, lev_comm]; exact hs)
      exact key (P.wk i j hi (by omega))
    · rw [← ultra_jn P.wt P.ult hi (show j < t.length by omega)]
      exact jn_mono' P.wt hu hl hge hi (by omega)
  rw [e, tri_lev_self P.wt]
end Ml
/-! enumerate(tuple) -/
namespace Ml
open PySem PySem.Spec PyProof.Rows L2
open PySem.AutoSeq1 (wpAny_loadPart')
theorem draws_tuple {prog : Program} {w : World} {A : Around} (calm : A.handled = none) (it l : Addr) (ne : l ≠ it) (vals : Array Value) :
    Draws prog w A it [it, l] vals.size (fun i v => vals[i]? = some v) (fun i h => h.IsTupleIter it l i ∧ h.IsTuple l vals) where
  live := fun _ _ st => by
    obtain ⟨⟨o, ho, _⟩, _⟩ := st
    exact ⟨o, ho⟩
  frame := fun _ _ _ st hk => ⟨st.1.at fun o e => hk it (by simp) o e, st.2.at fun o e => hk l (by simp) o e⟩
  item := fun i s Q E hi st hQ => by
    refine RZ.nextOf_tuple_item st.1 st.2 (x := vals[i]) (by simp [hi]) fun g it' sb => ?_
    exact hQ _ g s.toks (by simp [hi]) ⟨it', st.2.extBut sb.extBut ne⟩ sb
  done := fun s Q E st hE => RZ.nextOf_tuple_end calm st.1 st.2 (by simp) hE
abbrev tupIt (l : Addr) : Obj := { cls := .type "tuple_iterator", data := .fields #[.ref l, .int 0 0] }
abbrev enumOf (it : Addr) : Obj := { cls := .type "enumerate", data := .fields #[.none, .bool false, .ref it, rawInt 0, .none, .none] }
theorem meets_enum_tup (l : Addr) (vals : Array Value) (n : Nat) (dct : Option Addr) (sl : Array (Option Value)) :
    Meets (Builtin.«enumerate.__new__» ⟨[.type "enumerate", .ref l], []⟩) (fun _ R s => s.heap.get? l = some { cls := .type "tuple", dict := dct, data := .seq vals n, slots := sl } ∧
      R (.ok (.ret (.ref (s.heap.push (tupIt l)).objs.size))) { s with heap := (s.heap.push (tupIt l)).push (enumOf s.heap.objs.size) }) :=
  .of_wp fun prog w A R s h => by
    obtain ⟨hp, g, d, tk, os⟩ := s
    obtain ⟨hl, h⟩ := h
    have sub := sub_enumerate
    have isT : Heap.IsTuple (Shared.heap ⟨hp, g, d, tk, os⟩) l vals := ⟨_, hl, rfl, n, rfl⟩
    wp_walk using wpAny_loadPart' hl
    refine wpAny_stack_any fun st => wpAny_pure ?_
    split
    · rename_i c _ _ _ _ _
      cases (c == Value.type "enumerate")
      · wp_walk using wpAny_loadPart' hl, wpAny_pyIter_tuple isT
        exact ⟨_, rfl, h⟩
      · wp_walk using wpAny_loadPart' hl, wpAny_pyIter_tuple isT
        exact ⟨_, rfl, h⟩
    · wp_walk using wpAny_loadPart' hl, wpAny_pyIter_tuple isT
      exact ⟨_, rfl, h⟩
section
variable {prog : Program} {w : World} {A : Around} {E : Value → Shared → Prop} {s : Shared}
theorem call_enum_tup {l : Addr} {vals : Array Value} {Q : Value → Shared → Prop} (isT : s.heap.IsTuple l vals)
    (h : ∀ g, IsEnum g (s.heap.objs.size + 1) s.heap.objs.size 0 .none → g.IsTupleIter s.heap.objs.size l 0 → (∀ b o, s.heap.get? b = some o → g.get? b = some o) → Q (.ref (s.heap.objs.size + 1)) { s with heap := g }) :
    wpAny (model prog w) A (call (.type "enumerate") [.ref l]) Q E s := by
  obtain ⟨⟨c, dct, dt, sl⟩, hl, hc, n, hd⟩ := isT
  simp only at hc hd
  subst hc hd
  refine callType_new F.called_enumerate (by decide) (F.typeCall_enumerate_1 _) (F.newCall_enumerate_1 _) (fun obj => F.args_object_init_2 obj _) F.entry_enumerate_new (meets_enum_tup l vals n dct sl) ⟨hl, ?_⟩
  have hz : (s.heap.push (tupIt l)).objs.size = s.heap.objs.size + 1 := Heap.size_push ..
  show _ ∧ _
  rw [hz]
  have he : IsEnum ((s.heap.push (tupIt l)).push (enumOf s.heap.objs.size)) (s.heap.objs.size + 1) s.heap.objs.size 0 .none := by
    have e := Heap.get?_push_size (s.heap.push (tupIt l)) (o := enumOf s.heap.objs.size) rfl
    rwa [hz] at e
  exact ⟨⟨_, he, rfl⟩, h _ he ⟨_, Heap.get?_push_of_some _ (Heap.get?_push_size _ rfl), rfl, rfl⟩ fun b o e => Heap.get?_push_of_some _ (Heap.get?_push_of_some _ e)⟩
end
/-- the tuple at a, each item in a new pair with its place -/
def Iet (K : PySem.W.Frag) (a : Addr) : It :=
  ⟨fun i H => ∃ (xs : List V) (x : V), SqT K H a xs ∧ xs[i]? = some x, fun i H v H' => ∃ T x, v = .ref T ∧ H T = none ∧ H' = upd H T (.tup [.int (i : Nat), x]) ∧ ∀ xs, SqT K H a xs → xs[i]? = some x, fun i H => ∃ xs : List V, SqT K H a xs ∧ i = xs.length⟩
theorem turn_enumT {P : Program} {w : World} {K : PySem.W.Frag} {elts : List Expr} {kk : Nat} {tpos : Pos} (a e it : Addr) (nae : a ≠ e) (nai : a ≠ it) :
    Turn P w K (.Tuple elts kk tpos) (Iet K a) [e, it] e (fun i h => (∃ old, IsEnum h e it ((i : Nat) : Int) old) ∧ h.IsTupleIter it a i ∧ e ≠ it) where
  mem := by simp
  obj := fun i h st b hb => by
    obtain ⟨⟨old, he⟩, ⟨o, ho, _, hd⟩, _⟩ := st
    rcases List.mem_cons.mp hb with z | z
    · rw [z]; exact ⟨_, he, fun v q => nomatch q⟩
    · rw [List.mem_singleton.mp z]; exact ⟨o, ho, fun v q => by rw [hd] at q; cases q⟩
  keep := fun i h h' st k => by
    obtain ⟨⟨old, he⟩, hi, ne⟩ := st
    exact ⟨⟨old, k e (by simp) _ he⟩, hi.at fun o q => k it (by simp) o q, ne⟩
  item := by
    intro X hP hw hK calm i pins s σ H E I hf st hg
    subst hP hw hK
    obtain ⟨⟨old, he⟩, hit, ne⟩ := st
    obtain ⟨xs, x, hq, hx⟩ := hg
    obtain ⟨its, rv, isT, _⟩ := I.tuple hq
    obtain ⟨u, hu, ru⟩ := rv.get hx
    have hel : e < s.heap.objs.size := Heap.lt_size he
    have hil : it < s.heap.objs.size := by obtain ⟨_, q, _⟩ := hit; exact Heap.lt_size q
    have lt : i < its.toArray.size := by
      rw [List.size_toArray]
      exact (List.getElem?_eq_some_iff.mp hu).1
    have hA : X.A.in1.handled = none := I.ok.hd calm
    refine wpAny_pyNext_enum_itemD (draws_tuple hA it a nai its.toArray) he ⟨hit, isT⟩ lt ne (by simp only [List.mem_cons, List.not_mem_nil, or_false, not_or]; exact ⟨ne, nae.symm⟩) fun y g tk hy ho st' hT hsz hk => ?_
    obtain rfl : y = u := by
      have z : its[i]? = some y := by simpa using hy
      exact Option.some.inj (z.symm.trans hu)
    refine ⟨_, rfl, wpAny_letOwnedTupleGo_enum (s := { s with heap := g, toks := tk + 1 }) ho fun g2 he' sb => ?_⟩
    have hT2 : g2.get? s.heap.objs.size = some { cls := .type "tuple", data := .seq #[.int i tk, y] } := (sb.2 _ (Nat.ne_of_gt hel)).trans hT
    have new : ObjOk X.prog X.w (upd H s.heap.objs.size (.tup [.int (i : Nat), x])) g2 s.heap.objs.size (.tup [.int (i : Nat), x]) :=
      ⟨by show 2 ≤ sizeLine; decide, [.int i tk, y], .cons ⟨_, rfl⟩ (.cons ru .nil), ⟨_, hT2, rfl, _, rfl⟩⟩
    have I1 : Inv X pins σ (upd H s.heap.objs.size (.tup [.int (i : Nat), x])) { s with heap := g2, toks := tk + 1 } :=
      I.turnedNew (ch := [e, it]) (fun b ob hb q => (sb.2 b (fun z => hb (by simp [z]))).trans (hk b ob (fun z => hb (by simp [z])) (fun z => hb (by simp [z])) q)) hf (Nat.le_refl _) new
    refine ⟨.ref s.heap.objs.size, _, I1, rfl, ⟨_, x, rfl, I.hok.fresh (Nat.le_refl _), rfl, fun ys hy => by rw [I.tuple_inj hy hq]; exact hx⟩, ⟨⟨y, ?_⟩, st'.1.at fun o q => (sb.2 it (Ne.symm ne)).trans q, ne⟩, fun b hb => ?_⟩
    · rw [show ((i + 1 : Nat) : Int) = (i : Int) + 1 by omega]
      exact he'
    · have lb : b < s.heap.objs.size := by
        rcases List.mem_cons.mp hb with z | z
        · rw [z]; exact hel
        · rw [List.mem_singleton.mp z]; exact hil
      rw [upd_ne (Nat.ne_of_lt lb)]
      exact (hf b hb).1
  done := by
    intro X hP hw hK calm i pins s σ H E I hf st hg
    subst hP hw hK
    obtain ⟨⟨old, he⟩, hit, ne⟩ := st
    obtain ⟨xs, hq, hx⟩ := hg
    obtain ⟨its, rv, isT, _⟩ := I.tuple hq
    obtain ⟨f0, f1, f2, f3, f4, f5⟩ := hf it (by simp)
    have hl := rv.length
    have hA : X.A.in1.handled = none := I.ok.hd calm
    have hn : its.toArray.size = i := by rw [List.size_toArray, ← hl]; exact hx.symm
    refine wpAny_pyNext_enum_endD (draws_tuple hA it a nai its.toArray) he ⟨by rw [hn]; exact hit, isT⟩ fun g eb => ⟨rfl, I.turned (t' := s.toks) (fun b o hb q => eb b o hb q) f0 f1 f3 f4 f5⟩
  self := fun A i s Q E st h => by
    obtain ⟨⟨_, he⟩, _⟩ := st
    exact wpAny_pyIter_enum he h
def iEnumT (K : PySem.W.Frag) (ta : TA) : TI := fun σ H R => ta σ H fun vs H1 => ∃ a xs, vs = [.ref a] ∧ SqT K H1 a xs ∧ R (Iet K a) H1
theorem pi_enumT {X : Cx} {e : Expr} {ta : TA} {p pos tpos : Pos} {elts : List Expr} {kk : Nat} (hg : Gl X "enumerate") (hm : X.mg "enumerate" = none) (ha : PA X [e] ta) (hs : starEach [e] X.env = [(false, eval e X.env)] := by rfl) :
    PI X (.Tuple elts kk tpos) (.Call (.Name "enumerate" p) [e] [] pos) (iEnumT X.K ta) := by
  refine ⟨fun pins s σ H R I h => ?_⟩
  refine Call_ (ld_blt I hg hm boot_enumerate (PyProof.Rows.callWith_type1 (thn (ha.run pos pins s σ H _ I h) fun us z ⟨vs, H1, I1, r1, q1⟩ => ?_) hs rfl))
  obtain ⟨a, xs, rfl, hq, q⟩ := q1
  obtain ⟨u, rfl, ru⟩ := r1.one
  cases ru
  obtain ⟨its, rv, isT, _⟩ := I1.tuple hq
  have la : a < z.heap.objs.size := by obtain ⟨_, ho, _⟩ := isT; exact Heap.lt_size ho
  refine call_enum_tup isT fun g he hit hk => wpAny_pyIter_enum he ?_
  have I2 : Inv X pins σ H1 { z with heap := g } := I1.kept (t' := z.toks) hk
  refine ⟨z.heap.objs.size + 1, [z.heap.objs.size + 1, z.heap.objs.size], _, _, H1, rfl, I2, turn_enumT a (z.heap.objs.size + 1) z.heap.objs.size (Nat.ne_of_lt (Nat.lt_succ_of_lt la)) (Nat.ne_of_lt la), ⟨⟨.none, he⟩, hit, Nat.succ_ne_self _⟩, fun b hb => ?_, q⟩
  have le : z.heap.objs.size ≤ b := by
    rcases List.mem_cons.mp hb with e1 | e1
    · rw [e1]; exact Nat.le_succ _
    · rw [List.mem_singleton.mp e1]; exact Nat.le_refl _
  exact I1.fpOk le (I1.hok.fresh le)
/-- a loop over enumerate(tuple) -/
theorem for_enumT {K : PySem.W.Frag} {a : Addr} {xs : List V} {g : TG} {tb : TS} {D : Ends} {σ : L2.St} {H : Hp} (Pv : Nat → L2.St → Hp → Prop) (h0 : Pv 0 σ H) (hq : ∀ i σ H, Pv i σ H → SqT K H a xs)
    (hs : ∀ (i : Nat) (x : V) (T : Addr) (σ : L2.St) (H : Hp), xs[i]? = some x → Pv i σ H → H T = none → g (.ref T) σ (upd H T (.tup [.int (i : Nat), x])) fun σ2 H2 => tb { D with nx := Pv (i + 1), ct := Pv (i + 1), bk := D.nx } σ2 H2) (hd : ∀ σ H, Pv xs.length σ H → D.nx σ H) :
    ∃ W : Nat → Nat → L2.St → Hp → Prop, (∃ m, W 0 m σ H) ∧ ∀ i m σ H, W i m σ H →
      ((Iet K a).stop i H ∧ D.nx σ H) ∨ ((Iet K a).go i H ∧ ∃ N : L2.St → Hp → Prop, (∀ σ' H', N σ' H' → ∃ m', m' < m ∧ W (i + 1) m' σ' H') ∧ ∀ v H', (Iet K a).yld i H v H' → g v σ H' fun σ2 H2 => tb { D with nx := N, ct := N, bk := D.nx } σ2 H2) := by
  refine ⟨fun i m σ H => m = xs.length - i ∧ i ≤ xs.length ∧ Pv i σ H, ⟨xs.length, rfl, Nat.zero_le _, h0⟩, ?_⟩
  rintro i m σ H ⟨rfl, hi, p⟩
  have q := hq i σ H p
  by_cases lt : i < xs.length
  · refine .inr ⟨⟨xs, _, q, List.getElem?_eq_getElem lt⟩, Pv (i + 1), fun σ' H' p' => ⟨xs.length - (i + 1), by omega, rfl, lt, p'⟩, fun v H' y => ?_⟩
    obtain ⟨T, x, rfl, hT, rfl, f⟩ := y
    exact hs i x T σ H (f xs q) p hT
  · have e : i = xs.length := by omega
    subst e
    exact .inl ⟨⟨xs, q, rfl⟩, hd σ H p⟩
end Ml
namespace PySem
namespace Err_ParseError
open PySem.W PySem.Calls PyProof.Rows PySem.HandSPX Builtin Builtin.ObjectAttr
/-! ### ParseError: an own error over ValueError with the field place -/
abbrev tail : List Value := [.type "ValueError", .type "Exception", .type "BaseException", .type "object"]
def iA (p1 p2 : Pos) : Arguments := { posonlyargs := [], args := [{ arg := "self", annotation := none, pos := p1 }, { arg := "place", annotation := none, pos := p2 }], vararg := none, kwonlyargs := [], kw_defaults := [], kwarg := none, defaults := [] }
def iB (q1 q2 q3 q4 : Pos) : List Stmt := [.Assign [.Attribute (.Name "self" q1) "place" q2] (.Name "place" q3) q4]
def iS : Scope := { kind := .function, names := [(PySem.Str.ofString "self", .local), (PySem.Str.ofString "place", .local)], isGenerator := false, isCoroutine := false, more := [] }
/-- what the written part says of the class, at C, and of its __init__, at fI -/
structure Txt (K : Frag) (mg : Str → Option Value) (C fI : Addr) : Prop where
  gC : mg "ParseError" = some (.ref C)
  cls : ∃ nm q N bs bm sn sub ab col dd k0 k1 k2 k3 k5, K.lookup C = some (excClassObj nm q C N bs bm true sn sub ab col dd k0 k1 k2 k3 k5 "ValueError.__new__") ∧ excTail tail bm = true
  sa : findIn K (.ref C) "__setattr__" = some (some (.builtin "object.__setattr__"))
  ga : findIn K (.ref C) "__getattribute__" = some (some (.builtin "BaseException.__getattribute__"))
  gg : findIn K (.ref C) "__getattr__" = some none
  noN : findIn K (.ref C) "place" = some none
  iC : findIn K (.ref C) "__init__" = some (some (.ref fI))
  tC : typeIn K (.ref fI) = some (.type "function")
  kC : keepIn K (.ref C) = true
  exC : subIn K (.ref C) (.type "BaseException") = some true
  tyC : typeIn K (.ref C) = some (.type "type")
  hdC : hasDictIn K C = true
  te : exmOne K (.ref C) (.ref C) = some true
  fn : ∃ (oc : Value) (od : Option Addr) (doc pm : Value) (an : Option Addr) (cdv ct : Value) (osl : Array (Option Value)) (p1 p2 q1 q2 q3 q4 : Pos),
    K.lookup fI = some ⟨oc, od, .func (fnOf "__init__" "ParseError.__init__" (iA p1 p2) (iB q1 q2 q3 q4) iS .none .none doc pm an cdv ct), osl⟩ ∧ codeIn K cdv "ParseError.__init__" = true
theorem one_size (v : Value) : [v].length ≤ sizeLine := by
  rw [sizeLine_eq]
  exact (by decide : 1 ≤ 16777216)
theorem ldC {M : Model} {s : Shared} {name : Str} {scope : Scope} {L a : Addr} {cd : Value} {m : Str → Option Value} {x : Str} {pos : Pos} {v : Value} {Q : Value → Shared → Prop} {A : Around} {E : Value → Shared → Prop} (hn : s.heap.Ns L m) (hv : m x = some v) (h : Q v s)
    (hk : scope.kind = .function := by rfl) (hl : (envOfC name scope L a cd).kindOf x = some .local := by rfl) (hd : (x == ("__debug__" : Str)) = false := by decide) :
    wpAny M A (eval (.Name x pos) (envOfC name scope L a cd)) Q E s := wpAny_Name (wpAny_loadName_local hk hl hn hv h) hd
/-- what __init__ leaves of a fresh error at x -/
structure InitEnd (h h' : Heap) (x C dx t1 : Addr) (v : Value) : Prop where
  keep : ∀ b o, b ≠ x → h.get? b = some o → h'.get? b = some o
  obj : h'.get? x = some { cls := .ref C, dict := some dx, data := .fields #[.ref t1, .none, .none, .none, .bool false, .none] }
  dbig : h.objs.size ≤ dx
  dne : dx ≠ x
  ns : h'.Ns1 dx (fun y => if y = "place" then some v else none)
/-- a made one -/
structure OwnMade (h h' : Heap) (e C d : Addr) (v : Value) : Prop where
  keep : ∀ b o, h.get? b = some o → h'.get? b = some o
  new : h.objs.size ≤ e
  obj : ∃ oe vs, h'.get? e = some oe ∧ oe.cls = .ref C ∧ oe.dict = some d ∧ oe.data = .fields vs ∧ vs[1]? = some .none ∧ vs[2]? = some .none ∧ 4 < vs.size
  dbig : h.objs.size ≤ d
  dne : d ≠ e
  ns : h'.Ns1 d (fun y => if y = "place" then some v else none)
section
variable {prog : Program} {w : World} {A : Around} {E : Value → Shared → Prop} {R : Result → Shared → Prop} {s : Shared} {K : Frag} {mg : Str → Option Value} {C fI : Addr}
/-- the first store into an error of such a class -/
theorem osa {hp : Heap} {g : Array GenState} {d : Drawn} {t : Nat} {os : OsState} {tk : Tok} {v : Value} {x : Addr} {fv : Array Value} (T : Txt K mg C fI)
    (X : K.In hp) (hx : hp.get? x = some { cls := .ref C, data := .fields fv })
    (hq : ∀ h' tk' dx, (∀ b o, b ≠ x → hp.get? b = some o → h'.get? b = some o) → hp.objs.size ≤ dx → dx ≠ x → h'.get? x = some { cls := .ref C, dict := some dx, data := .fields fv } →
      h'.Ns1 dx (fun y => if y = "place" then some v else none) → R (.ok (.ret .none)) ⟨h', g, d, tk', os⟩) :
    codeAny (model prog w) A (.call (.builtin "object.__setattr__") ⟨[.ref x, .str "place" tk, v], []⟩) R ⟨hp, g, d, t, os⟩ := by
  obtain ⟨nm, q, N, bs, bm, sn, sub, ab, col, dd, k0, k1, k2, k3, k5, hC, hbm⟩ := T.cls
  have hcl : clsIn K C = some { name := nm, bases := bs, mro := .ref C :: bm, ns := N, qualname := q, hasDict := true, slotNames := sn, subclasses := sub, abstract := ab, collection := col, hasDel := false } := by unfold clsIn; rw [hC] <;> rfl
  have I : W.InstAt hp x { cls := .ref C, data := .fields fv } C none := ⟨hx, rfl, rfl, trivial⟩
  have hov : excOver K C tail = true := by
    unfold excOver
    rw [hcl]
    simp [hbm]
  have htk : takerIn K C "place" = some none := by
    unfold takerIn
    rw [T.noN]
    rfl
  have hxs : x ≠ hp.objs.size := Nat.ne_of_lt (Heap.lt_size hx)
  have hcls : W.Looks (model prog w) hp (classData C) _ := W.looks_clsIn X hcl
  refine osa_openX (r := none) F.store_ValueError X I hov htk (fun b => ?_)
  show wpAny _ _ (storeInOwnDict (.ref x) (.ref C) (.str "place" tk) "place" v b) _ _ _
  unfold storeInOwnDict ownDictForStores
  repeat (first | with_reducible refine store_in_new ?_ ?_ | with_reducible refine wpAny_loadPart_at hx ?_ | with_reducible refine hcls.at ?_ | wp_step)
  · exact ⟨_, #[], _, (Heap.get?_update_ne _ _ _ _ hxs.symm).trans (Heap.get?_push_at rfl rfl), rfl, fun e he => absurd he (by simp), fun _ => rfl⟩
  · intro h' tk' hn' hs
    have hx₁ : (hp.push { cls := .type "dict", data := .dict #[] }).get? x = some { cls := .ref C, data := .fields fv } := Heap.get?_push_of_some _ hx
    refine hq h' tk' hp.objs.size (fun b o hb ho => ?_) (Nat.le_refl _) hxs.symm ?_ hn'
    · exact (hs.2 b (Nat.ne_of_lt (Heap.lt_size ho))).trans ((Heap.get?_update_ne _ _ _ _ hb).trans (Heap.get?_push_of_some _ ho))
    · exact (hs.2 x hxs).trans (Heap.get?_update_self _ hx₁ rfl)
theorem init (T : Txt K mg C fI) {x t0 : Addr} {v : Value} (X : K.In s.heap) (hlim : s.heap.NoLimit) (hx : s.heap.get? x = some (excO C t0)) (hnx : K.lookup x = none) (hroom : A.depth < recursionLimit)
    (hq : ∀ h' tk dx, InitEnd s.heap h' x C dx t0 v → R (.ok (.ret .none)) { s with heap := h', toks := tk }) :
    codeAny (model prog w) A (.call (.ref fI) ⟨[.ref x, v], []⟩) R s := by
  obtain ⟨oc, od, doc, pm, an, cdv, ct, osl, p1, p2, q1, q2, q3, q4, ho, hcd⟩ := T.fn
  refine Att.call_fn (binds := [("self", .ref x), ("place", v)]) X hlim ho hcd hroom (BindsTo.of_eq (by first | rfl | with_unfolding_all rfl)) (by first | rfl | decide | with_unfolding_all rfl) (fun s₁ IC => ?_) rfl rfl rfl
  obtain ⟨h₁, tk₁, rfl⟩ := IC.toInCall.same
  have k : ∀ b o, s.heap.get? b = some o → h₁.get? b = some o := IC.toInCall.keep
  have hn := IC.toInCall.ns
  have X₁ : K.In h₁ := X.keeps k
  have hx₁ := k _ _ hx
  show wpAny _ _ (execs _ _) _ _ _
  refine wpAny_execs_cons (plainObj_wpAny_Assign_Attribute ?_)
  refine ldC (v := v) hn (by first | rfl | with_unfolding_all rfl | kernel_rfl) (ldC (v := .ref x) hn (by first | rfl | with_unfolding_all rfl | kernel_rfl) ?_)
  refine set_plain X₁ (ox := excO C t0) (od := none) ⟨hx₁, rfl, rfl, trivial⟩ T.sa ?_
  refine osa T X₁ hx₁ (fun h₃ tk₃ dx k₃ dn dne hx₃ hn₃ => ?_)
  show wpAny _ _ (execs _ _) _ _ _
  have z : s.heap.objs.size < h₁.objs.size := hn.lt
  exact wpAny_execs_nil (hq h₃ tk₃ dx ⟨fun b o hb e => k₃ b o hb (k b o e), hx₃, Nat.le_of_lt (Nat.lt_of_lt_of_le z dn), dne, hn₃⟩)
theorem made (T : Txt K mg C fI) {v : Value} (X : K.In s.heap) (hlim : s.heap.NoLimit) (hroom : A.depth + 1 < recursionLimit)
    (hq : ∀ h' tk e d, OwnMade s.heap h' e C d v → R (.ok (.ret (.ref e))) { s with heap := h', toks := tk }) :
    codeAny (model prog w) A (.call (.ref C) ⟨[v], []⟩) R s := by
  obtain ⟨nm, q, N, bs, bm, sn, sub, ab, col, dd, k0, k1, k2, k3, k5, hC, hbm⟩ := T.cls
  obtain ⟨hp, g, dr, tk, os⟩ := s
  have k : ∀ b o, hp.get? b = some o → ((hp.push (kdv_tup [v])).push (excO C hp.objs.size)).get? b = some o := fun b o e => Heap.get?_push_of_some _ (Heap.get?_push_of_some _ e)
  have hget : ((hp.push (kdv_tup [v])).push (excO C hp.objs.size)).get? (hp.objs.size + 1) = some (excO C hp.objs.size) := by heap_get
  have hnx : K.lookup (hp.objs.size + 1) = none := by
    cases e : K.lookup (hp.objs.size + 1) with
    | none => rfl
    | some o =>
      have z : hp.get? (hp.objs.size + 1) = some o := X _ _ e
      exact absurd (Nat.lt_of_succ_lt (Heap.lt_size z)) (Nat.lt_irrefl _)
  refine call_own F.excBase_ValueError (fun X => excTail_contains X bm hbm) (X _ _ hC) (looks_findIn X T.iC) (fun self => bind_fn X self T.tC) (one_size v) ?_
  refine init (s := ⟨(hp.push (kdv_tup [v])).push (excO C hp.objs.size), g, dr, tk, os⟩) T (X.keeps k) (hlim.keeps k) hget hnx ?_ fun h' tk' dx ⟨k', hx, dn, dne, hns⟩ => ?_
  · show A.depth + 1 < recursionLimit
    exact hroom
  · have old : ∀ b o, hp.get? b = some o → h'.get? b = some o := fun b o e => k' b o (Nat.ne_of_lt (Nat.lt_succ_of_lt (Heap.lt_size e))) (k b o e)
    have z : hp.objs.size + 1 + 1 ≤ dx := by
      first
        | (simpa only [Heap.size_push] using dn)
        | exact dn
        | (have q := dn; rw [Heap.size_push, Heap.size_push] at q; exact q)
    exact ⟨rfl, hq h' tk' (hp.objs.size + 1) dx ⟨old, Nat.le_succ _, ⟨_, _, hx, rfl, rfl, rfl, rfl, rfl, (by show (4 : Nat) < 6; decide)⟩, Nat.le_trans (Nat.le_trans (Nat.le_succ _) (Nat.le_succ _)) z, dne, hns⟩⟩
end
end Err_ParseError
end PySem
namespace L2
open PySem PySem.Spec PyProof.Rows
end L2
namespace Ml
open PySem PySem.Spec PyProof.Rows L2
/-! ### shortest paths, layer by layer -/
inductive Lx : List Nat → List Nat → Prop
  | lt {a b : Nat} {p q : List Nat} : a < b → Lx (a :: p) (b :: q)
  | eq {a : Nat} {p q : List Nat} : Lx p q → Lx (a :: p) (a :: q)
theorem Lx.app {p q : List Nat} (h : Lx p q) (r s : List Nat) : Lx (p ++ r) (q ++ s) := by
  induction h with
  | lt h => exact .lt h
  | eq _ ih => exact .eq ih
theorem Lx.snoc {x y : Nat} (h : x < y) : ∀ p : List Nat, Lx (p ++ [x]) (p ++ [y])
  | [] => .lt h
  | _ :: p => .eq (Lx.snoc h p)
theorem Lx.trans {p q r : List Nat} (h : Lx p q) (g : Lx q r) : Lx p r := by
  induction h generalizing r with
  | lt h =>
    cases g with
    | lt g => exact .lt (Nat.lt_trans h g)
    | eq g => exact .lt h
  | eq _ ih =>
    cases g with
    | lt g => exact .lt g
    | eq g => exact .eq (ih g)
def lst (p : List Nat) : Nat := p.getLastD 0
theorem lst_snoc (p : List Nat) (x : Nat) : lst (p ++ [x]) = x := by simp [lst, List.getLastD_eq_getLast?]
theorem lst_some {p : List Nat} (h : p ≠ []) : p.getLast? = some (lst p) := by
  rw [List.getLast?_eq_some_getLast h]
  simp [lst, List.getLastD_eq_getLast?, List.getLast?_eq_some_getLast h]
section
variable {n : Nat} {f : Nat → Nat → Int} {h : Int} {i : Nat}
def frsh (n : Nat) (f : Nat → Nat → Int) (h : Int) (p : List Nat) (seen : List Nat) : List Nat := (List.range n).filter fun x => decide (f (lst p) x ≤ h) && decide (x ∉ seen)
theorem mem_frsh {p seen : List Nat} {x : Nat} : x ∈ frsh n f h p seen ↔ x < n ∧ f (lst p) x ≤ h ∧ x ∉ seen := by
  unfold frsh
  rw [List.mem_filter, List.mem_range, Bool.and_eq_true, decide_eq_true_iff, decide_eq_true_iff]
theorem frsh_nd (p seen : List Nat) : (frsh n f h p seen).Nodup := List.Pairwise.filter _ List.nodup_range
theorem frsh_asc (p seen : List Nat) : (frsh n f h p seen).Pairwise (· < ·) := List.Pairwise.filter _ List.pairwise_lt_range
def layer (n : Nat) (f : Nat → Nat → Int) (h : Int) : List (List Nat) → List Nat → List (List Nat)
  | [], _ => []
  | p :: ps, seen => ((frsh n f h p seen).map fun x => p ++ [x]) ++ layer n f h ps (seen ++ frsh n f h p seen)
theorem lst_kids (p : List Nat) (l : List Nat) : (l.map fun x => p ++ [x]).map lst = l := by
  rw [List.map_map]
  conv => rhs; rw [← List.map_id l]
  exact List.map_congr_left fun x _ => lst_snoc p x
theorem layer_mem : ∀ (L : List (List Nat)) (seen : List Nat) (c : List Nat), c ∈ layer n f h L seen → ∃ L1 p L2 x, L = L1 ++ p :: L2 ∧ c = p ++ [x] ∧ x < n ∧ f (lst p) x ≤ h ∧ x ∉ seen ∧ ∀ q ∈ L1, ¬ f (lst q) x ≤ h
  | [], _, c, hc => by simp [layer] at hc
  | p :: ps, seen, c, hc => by
    rcases List.mem_append.mp (show c ∈ ((frsh n f h p seen).map fun x => p ++ [x]) ++ layer n f h ps (seen ++ frsh n f h p seen) from hc) with z | z
    · obtain ⟨x, hx, rfl⟩ := List.mem_map.mp z
      obtain ⟨h1, h2, h3⟩ := mem_frsh.mp hx
      exact ⟨[], p, ps, x, rfl, rfl, h1, h2, h3, fun q hq => by simp at hq⟩
    · obtain ⟨L1, q, L2, x, e, rfl, h1, h2, h3, h4⟩ := layer_mem ps _ c z
      rw [List.mem_append, not_or] at h3
      refine ⟨p :: L1, q, L2, x, by rw [e]; rfl, rfl, h1, h2, h3.1, fun r hr => ?_⟩
      rcases List.mem_cons.mp hr with y | y
      · subst y
        exact fun g => h3.2 (mem_frsh.mpr ⟨h1, g, h3.1⟩)
      · exact h4 r y
theorem layer_cov : ∀ (L : List (List Nat)) (seen : List Nat) (p : List Nat), p ∈ L → ∀ x, x < n → f (lst p) x ≤ h → x ∈ seen ∨ x ∈ (layer n f h L seen).map lst
  | [], _, p, hp, _, _, _ => by simp at hp
  | q :: ps, seen, p, hp, x, hx, hf => by
    show x ∈ seen ∨ x ∈ (((frsh n f h q seen).map fun x => q ++ [x]) ++ layer n f h ps (seen ++ frsh n f h q seen)).map lst
    rw [List.map_append, lst_kids, List.mem_append]
    rcases List.mem_cons.mp hp with y | y
    · subst y
      by_cases hs : x ∈ seen
      · exact .inl hs
      · exact .inr (.inl (mem_frsh.mpr ⟨hx, hf, hs⟩))
    · rcases layer_cov ps (seen ++ frsh n f h q seen) p y x hx hf with z | z
      · rcases List.mem_append.mp z with z | z
        · exact .inl z
        · exact .inr (.inl z)
      · exact .inr (.inr z)
theorem layer_nd : ∀ (L : List (List Nat)) (seen : List Nat), seen.Nodup → (seen ++ (layer n f h L seen).map lst).Nodup
  | [], seen, hs => by simpa [layer] using hs
  | q :: ps, seen, hs => by
    show (seen ++ (((frsh n f h q seen).map fun x => q ++ [x]) ++ layer n f h ps (seen ++ frsh n f h q seen)).map lst).Nodup
    rw [List.map_append, lst_kids, ← List.append_assoc]
    refine layer_nd ps _ ?_
    rw [List.nodup_append]
    exact ⟨hs, frsh_nd _ _, fun a ha b hb e => (mem_frsh.mp hb).2.2 (e ▸ ha)⟩
theorem layer_srt : ∀ (L : List (List Nat)) (seen : List Nat), L.Pairwise Lx → (layer n f h L seen).Pairwise Lx
  | [], _, _ => .nil
  | p :: ps, seen, hs => by
    obtain ⟨h1, h2⟩ := List.pairwise_cons.mp hs
    show (((frsh n f h p seen).map fun x => p ++ [x]) ++ layer n f h ps (seen ++ frsh n f h p seen)).Pairwise Lx
    rw [List.pairwise_append]
    refine ⟨List.pairwise_map.mpr ((frsh_asc p seen).imp fun hab => Lx.snoc hab p), layer_srt ps _ h2, fun a ha b hb => ?_⟩
    obtain ⟨x, _, rfl⟩ := List.mem_map.mp ha
    obtain ⟨L1, q, L2, y, e, rfl, _⟩ := layer_mem ps _ b hb
    exact (h1 q (by rw [e]; simp)).app _ _
theorem layer_skip : ∀ (A L : List (List Nat)) (seen : List Nat), (∀ p ∈ A, frsh n f h p seen = []) → layer n f h (A ++ L) seen = layer n f h L seen
  | [], _, _, _ => rfl
  | p :: A, L, seen, hA => by
    show ((frsh n f h p seen).map fun x => p ++ [x]) ++ layer n f h (A ++ L) (seen ++ frsh n f h p seen) = _
    rw [hA p (List.mem_cons_self ..), List.append_nil, List.map_nil, List.nil_append]
    exact layer_skip A L seen fun q hq => hA q (List.mem_cons_of_mem _ hq)
structure Gd (n : Nat) (f : Nat → Nat → Int) (h : Int) (i : Nat) (p : List Nat) : Prop where
  hd : p.head? = some i
  lt : ∀ x ∈ p, x < n
  st : Steps f h p
theorem Gd.ne {p : List Nat} (g : Gd n f h i p) : p ≠ [] := fun e => by
  have := g.hd
  rw [e] at this
  simp at this
theorem Gd.snoc {p : List Nat} {x : Nat} (g : Gd n f h i p) (hx : x < n) (hf : f (lst p) x ≤ h) : Gd n f h i (p ++ [x]) := by
  refine ⟨?_, fun y hy => ?_, fun m a b h1 h2 => ?_⟩
  · have hd := g.hd
    cases p with
    | nil => simp at hd
    | cons y r => simpa using hd
  · rcases List.mem_append.mp hy with z | z
    · exact g.lt y z
    · rw [List.mem_singleton.mp z]; exact hx
  · by_cases hl : m + 1 < p.length
    · rw [List.getElem?_append_left (by omega)] at h1
      rw [List.getElem?_append_left hl] at h2
      exact g.st m a b h1 h2
    · by_cases he : m + 1 = p.length
      · rw [List.getElem?_append_left (by omega)] at h1
        rw [List.getElem?_append_right (by omega), he, Nat.sub_self] at h2
        cases Option.some.inj h2
        have e := lst_some g.ne
        rw [List.getLast?_eq_getElem?, show p.length - 1 = m by omega, h1] at e
        cases Option.some.inj e
        exact hf
      · rw [List.getElem?_eq_none (by rw [List.length_append]; simp; omega)] at h2
        cases h2
/-- a good path is one item, or one that is longer by a step -/
theorem Gd.split {q : List Nat} (g : Gd n f h i q) : q = [i] ∨ ∃ r x, q = r ++ [x] ∧ Gd n f h i r ∧ x < n ∧ f (lst r) x ≤ h := by
  obtain ⟨r, x, rfl⟩ := split_last q g.ne
  by_cases hr : r = []
  · subst hr
    have := g.hd
    simp at this
    exact .inl (by rw [this]; rfl)
  · refine .inr ⟨r, x, rfl, ⟨?_, fun y hy => g.lt y (List.mem_append_left _ hy), fun m a b h1 h2 => ?_⟩, g.lt x (by simp), ?_⟩
    · have hd := g.hd
      cases r with
      | nil => exact absurd rfl hr
      | cons y s => simpa using hd
    · refine g.st m a b ?_ ?_
      · rw [List.getElem?_append_left (List.getElem?_eq_some_iff.mp h1).1]; exact h1
      · rw [List.getElem?_append_left (List.getElem?_eq_some_iff.mp h2).1]; exact h2
    · have hl : 0 < r.length := List.length_pos_iff.mpr hr
      have e := lst_some hr
      rw [List.getLast?_eq_getElem?] at e
      refine g.st (r.length - 1) _ _ ?_ ?_
      · rw [List.getElem?_append_left (by omega)]; exact e
      · rw [show r.length - 1 + 1 = r.length by omega, List.getElem?_append_right (Nat.le_refl _), Nat.sub_self]
        rfl
structure Bst (n : Nat) (f : Nat → Nat → Int) (h : Int) (i : Nat) (p : List Nat) : Prop where
  gd : Gd n f h i p
  mn : ∀ q, Gd n f h i q → lst q = lst p → p.length < q.length ∨ (p.length = q.length ∧ (p = q ∨ Lx p q))
structure Bfs (n : Nat) (f : Nat → Nat → Int) (h : Int) (i : Nat) (A L : List (List Nat)) (k : Nat) : Prop where
  nd : ((A ++ L).map lst).Nodup
  best : ∀ p ∈ A ++ L, Bst n f h i p
  nod : ∀ p ∈ A ++ L, p.Nodup ∧ ∀ x ∈ p, x ∈ (A ++ L).map lst
  len : ∀ p ∈ L, p.length = k + 1
  cl : ∀ p ∈ A, ∀ x, x < n → f (lst p) x ≤ h → x ∈ (A ++ L).map lst
  srt : L.Pairwise Lx
  near : ∀ q, Gd n f h i q → q.length ≤ k → lst q ∈ A.map lst
  root : i ∈ (A ++ L).map lst
theorem Bfs.next {A L : List (List Nat)} {k : Nat} (b : Bfs n f h i A L k) : Bfs n f h i (A ++ L) (layer n f h L ((A ++ L).map lst)) (k + 1) := by
  have near' : ∀ q, Gd n f h i q → q.length ≤ k + 1 → lst q ∈ (A ++ L).map lst := fun q g hq => by
    by_cases hk : q.length ≤ k
    · rw [List.map_append]
      exact List.mem_append_left _ (b.near q g hk)
    · rcases g.split with e | ⟨r, x, rfl, gr, hx, hf⟩
      · subst e
        exact b.root
      · rw [List.length_append] at hq hk
        have hq' : r.length + 1 ≤ k + 1 := hq
        have := b.near r gr (by omega)
        obtain ⟨p, hp, e⟩ := List.mem_map.mp this
        rw [lst_snoc]
        exact b.cl p hp x hx (by rw [e]; exact hf)
  have mem : ∀ c, c ∈ layer n f h L ((A ++ L).map lst) → ∃ L1 p L2 x, L = L1 ++ p :: L2 ∧ c = p ++ [x] ∧ x < n ∧ f (lst p) x ≤ h ∧ x ∉ (A ++ L).map lst ∧ ∀ q ∈ L1, ¬ f (lst q) x ≤ h := layer_mem _ _
  have inL : ∀ {p : List Nat}, p ∈ L → p ∈ A ++ L := fun hp => List.mem_append_right _ hp
  refine ⟨?_, fun c hc => ?_, fun c hc => ?_, fun c hc => ?_, fun p hp x hx hf => ?_, layer_srt _ _ b.srt, near', ?_⟩
  · rw [List.map_append]
    exact layer_nd _ _ b.nd
  · rcases List.mem_append.mp hc with z | z
    · exact b.best c z
    · obtain ⟨L1, p, L2, x, e, rfl, hx, hf, hs, hfirst⟩ := mem c z
      have hp : p ∈ L := by rw [e]; simp
      have gp := (b.best p (inL hp)).gd
      refine ⟨gp.snoc hx hf, fun q g eq => ?_⟩
      rw [lst_snoc] at eq
      have lp := b.len p hp
      have hq : ¬ q.length ≤ k + 1 := fun hq => hs (by rw [← eq]; exact near' q g hq)
      rw [List.length_append]
      by_cases hq2 : q.length = k + 2
      · refine .inr ⟨by show p.length + 1 = _; omega, ?_⟩
        rcases g.split with e1 | ⟨r, y, rfl, gr, hy, hfr⟩
        · rw [e1] at hq2
          simp at hq2
        · rw [lst_snoc] at eq
          subst eq
          rw [List.length_append] at hq2
          have hr : r.length = k + 1 := by
            have : r.length + 1 = k + 2 := hq2
            omega
          have hin := near' r gr (by omega)
          rw [List.map_append] at hin
          rcases List.mem_append.mp hin with z | z
          · obtain ⟨a, ha, ea⟩ := List.mem_map.mp z
            exact absurd (b.cl a ha y hy (by rw [ea]; exact hfr)) hs
          · obtain ⟨a, ha, ea⟩ := List.mem_map.mp z
            have hfa : f (lst a) y ≤ h := by rw [ea]; exact hfr
            have pa : p = a ∨ Lx p a := by
              rw [e] at ha
              rcases List.mem_append.mp ha with w | w
              · exact absurd hfa (hfirst a w)
              · rcases List.mem_cons.mp w with w | w
                · exact .inl w.symm
                · have := b.srt
                  rw [e, List.pairwise_append] at this
                  exact .inr ((List.pairwise_cons.mp this.2.1).1 a w)
            rcases (b.best a (inL ha)).mn r gr ea.symm with w | ⟨_, w⟩
            · have := b.len a ha
              omega
            · have pr : p = r ∨ Lx p r := by
                rcases pa with u | u <;> rcases w with v | v
                · exact .inl (u.trans v)
                · exact .inr (u ▸ v)
                · exact .inr (v ▸ u)
                · exact .inr (u.trans v)
              rcases pr with u | u
              · exact .inl (by rw [u])
              · exact .inr (u.app _ _)
      · exact .inl (by show p.length + 1 < _; omega)
  · rcases List.mem_append.mp hc with z | z
    · refine ⟨(b.nod c z).1, fun x hx => ?_⟩
      rw [List.map_append]
      exact List.mem_append_left _ ((b.nod c z).2 x hx)
    · obtain ⟨L1, p, L2, x, e, rfl, hx, hf, hs, _⟩ := mem c z
      have hp : p ∈ L := by rw [e]; simp
      obtain ⟨n1, n2⟩ := b.nod p (inL hp)
      refine ⟨?_, fun y hy => ?_⟩
      · rw [List.nodup_append]
        refine ⟨n1, by simp, fun a ha b' hb => ?_⟩
        rw [List.mem_singleton.mp hb]
        exact fun e => hs (e ▸ n2 a ha)
      · rw [List.map_append]
        rcases List.mem_append.mp hy with w | w
        · exact List.mem_append_left _ (n2 y w)
        · rw [List.mem_singleton.mp w]
          exact List.mem_append_right _ (List.mem_map.mpr ⟨_, z, lst_snoc _ _⟩)
  · obtain ⟨L1, p, L2, x, e, rfl, _⟩ := mem c hc
    rw [List.length_append, b.len p (by rw [e]; simp)]
    rfl
  · rw [List.map_append]
    rcases List.mem_append.mp hp with z | z
    · exact List.mem_append_left _ (b.cl p z x hx hf)
    · exact List.mem_append.mpr (layer_cov _ _ p z x hx hf)
  · rw [List.map_append]
    exact List.mem_append_left _ b.root
/-- where nothing is added, all is reached -/
theorem Bfs.done {A L : List (List Nat)} {k : Nat} (b : Bfs n f h i A L k) (e : layer n f h L ((A ++ L).map lst) = []) {j : Nat} (w : Wk f n h i j) : j ∈ (A ++ L).map lst := by
  induction w with
  | refl => exact b.root
  | @step x y _ hx hy hf ih =>
    obtain ⟨p, hp, ep⟩ := List.mem_map.mp ih
    rcases List.mem_append.mp hp with z | z
    · exact b.cl p z y hy (by rw [ep]; exact hf)
    · rcases layer_cov L ((A ++ L).map lst) p z y hy (by rw [ep]; exact hf) with v | v
      · exact v
      · rw [e] at v
        simp at v
theorem Bfs.few {A L : List (List Nat)} {k : Nat} (b : Bfs n f h i A L k) : (A ++ L).length ≤ n := by
  have := nodup_len n ((A ++ L).map lst) b.nd (fun x hx => by
    obtain ⟨p, hp, rfl⟩ := List.mem_map.mp hx
    have g := (b.best p hp).gd
    exact g.lt _ (List.mem_of_mem_getLast? (lst_some g.ne)))
  rwa [List.length_map] at this
/-- what all paths add is what the last ones add -/
theorem Bfs.all {A L : List (List Nat)} {k : Nat} (b : Bfs n f h i A L k) : layer n f h (A ++ L) ((A ++ L).map lst) = layer n f h L ((A ++ L).map lst) := by
  refine layer_skip A L _ fun p hp => ?_
  refine List.eq_nil_iff_forall_not_mem.mpr fun x hx => ?_
  obtain ⟨h1, h2, h3⟩ := mem_frsh.mp hx
  exact h3 (b.cl p hp x h1 h2)
theorem Bst.uniq {p q : List Nat} (hp : Bst n f h i p) (hq : Bst n f h i q) (e : lst p = lst q) : p = q := by
  have irr : ∀ {a : List Nat}, ¬ Lx a a := fun {a} g => by
    induction a with
    | nil => cases g
    | cons x r ih =>
      cases g with
      | lt g => exact Nat.lt_irrefl _ g
      | eq g => exact ih g
  rcases hp.mn q hq.gd e.symm with z | ⟨_, z⟩ <;> rcases hq.mn p hp.gd e with y | ⟨_, y⟩
  · omega
  · omega
  · omega
  · rcases z with z | z
    · exact z
    · rcases y with y | y
      · exact y.symm
      · exact absurd (z.trans y) irr
end
end Ml
namespace Ml
open PySem PySem.Spec PyProof.Rows L2
/-! ### pairs as data -/
abbrev e2 (p : Nat × Nat) : List Int := [(p.1 : Int), (p.2 : Int)]
theorem Prs.kp {K : PySem.W.Frag} {H H' : Hp} {d c r : Addr} {n : Nat} {vs : List V} {E : List (Nat × Nat)} (h : Prs K H vs E) (g : Dr H d c r n) (e : Kp d r H H') : Prs K H' vs E :=
  ⟨h.1, fun i v p a b => let ⟨q, h1, h2⟩ := h.2 i v p a b; ⟨q, h1, g.kpT e h2⟩⟩
theorem lay_tab (t : List (List Int)) : SeqAt.shaped (tabD t) = true := by
  show ((PyData.tuple (t.map rowD)).canLay0 && decide ((PyData.tuple (t.map rowD)).depth ≤ 64)) = true
  have h := dep_rows t
  have d : (PyData.tuple (t.map rowD)).depth ≤ 64 := by
    have e : (PyData.tuple (t.map rowD)).depth = PyData.depthAll (t.map rowD) + 1 := by simp [PyData.depth]
    omega
  have l : (PyData.tuple (t.map rowD)).canLay0 = true := by simp [PyData.canLay0, lay_rows t]
  rw [l, decide_eq_true d]
  rfl
theorem TT.upd {K : PySem.W.Frag} {H : Hp} {p : Addr} {ys zs : List V} {v : V} {t : List (List Int)} (h : TT K H v t) (hp : H p = some (.lst ys)) : TT K (L2.upd H p (.lst zs)) v t := by
  obtain ⟨q, vs, h1, h2, h3⟩ := h
  exact ⟨q, vs, h1, sqT_upd hp h2, h3.upd hp⟩
end Ml
namespace Ml
open PySem PySem.Spec PyProof.Rows L2
/-! ### the least of some data -/
section
variable {X : Cx}
theorem vals_back : ∀ {ys : List V} {us : List Value}, Vals ys us → ∀ {i : Nat} {u : Value}, us[i]? = some u → ∃ y, ys[i]? = some y ∧ RelV y u
  | _, _, .nil, i, u, h => by simp at h
  | _, _, .cons r _, 0, u, h => by
    cases Option.some.inj h
    exact ⟨_, rfl, r⟩
  | _, _, .cons _ t, i + 1, u, h => by
    obtain ⟨y, h1, h2⟩ := vals_back t (i := i) (u := u) (by simpa using h)
    exact ⟨y, by simpa using h1, h2⟩
end
theorem lex_irr (O : PyProof.Rows.KeyOrd) : ∀ l : List O.α, PyProof.Rows.lexLt O l l = false
  | [] => by unfold PyProof.Rows.lexLt; rfl
  | x :: l => by rw [PyProof.Rows.lex_self]; exact lex_irr O l
theorem dataLt_asym {d e : PyData} (h : PySem.W.dataLt d e = true) : PySem.W.dataLt e d = false := by
  cases q : PySem.W.dataLt e d with
  | false => rfl
  | true =>
    have := PyProof.Rows.lex_trans _ _ _ h q
    rw [lex_irr] at this
    cases this
abbrev tupD (p : List Nat) : PyData := .tuple ((iL p).map PyData.int)
abbrev D3 (a : Int) (p : List Nat) : PyData := .tuple [.int a, .int (p.length : Int), tupD p]
theorem lex_int {a b : Int} (h : a < b) (r t : List (Int ⊕ List Nat)) : PyProof.Rows.lexLt PyProof.Rows.itemOrd (.inl a :: r) (.inl b :: t) = true := by
  rw [PyProof.Rows.lex_diff (fun e => by have := Sum.inl.inj e; omega)]
  exact decide_eq_true h
theorem alike_ints : ∀ a b : List Int, PySem.W.alikeAll (a.map PyData.int) (b.map PyData.int) = true
  | [], b => by simp [PySem.W.alikeAll]
  | x :: a, [] => by simp [PySem.W.alikeAll]
  | x :: a, y :: b => by simp [PySem.W.alikeAll, PySem.W.alike, alike_ints a b]
theorem dpAll_of {K : PySem.W.Frag} {H : Hp} : ∀ {us : List V} {ds : List PyData}, us.length = ds.length → (∀ (i : Nat) v d, us[i]? = some v → ds[i]? = some d → Dp K H v d) → DpAll K H us ds
  | [], [], _, _ => .nil
  | u :: us, d :: ds, hl, h => .cons (h 0 u d rfl rfl) (dpAll_of (by simpa using hl) fun i v e a b => h (i + 1) v e (by simpa using a) (by simpa using b))
end Ml
namespace Ml
open PySem PySem.Spec PyProof.Rows L2
/-! ### the greatest of some data, or a default -/
section
variable {X : Cx}
def rMaxK (K : PySem.W.Frag) : List V → List V → Hp → VK → Prop := fun vs zs H Q => ∃ (a : Addr) (ys : List V) (dv : V) (xs : List PyData), vs = [V.ref a] ∧ zs = [dv] ∧ SqL K H a ys ∧ DpAll K H ys xs ∧ PySem.W.AlikeAll xs ∧ PyData.depthAll xs ≤ 60 ∧ (xs = [] → Q dv H) ∧
  ∀ (i : Nat) (y : V) (x : PyData) (zs : List PyData), xs = x :: zs → ys[i]? = some y → xs[i]? = some (PySem.W.maxD x zs) → Q y H
theorem crK_max (hc : X.calm = true) (hu : X.A.units + 64 < cLine) : CallRK X (.builtin "max") ["default"] (rMaxK X.K) := by
  intro pins s σ H vs zs us ws Q I r rz h
  obtain ⟨a, ys, dv, xs, rfl, rfl, hs, hd, ha, hdep, q0, q⟩ := h
  obtain ⟨its, rv, hl, _⟩ := I.list hs
  rw [Vals.ref1 r]
  obtain ⟨dw, rfl, rdw⟩ : ∃ dw, ws = [dw] ∧ RelV dv dw := by
    cases rz with
    | cons h t => cases t; exact ⟨_, rfl, h⟩
  obtain ⟨as, hr⟩ := Dp.readsAll I _ _ _ hd rv
  have hr' : ReadsAll s.heap its.toArray.toList xs as := hr
  have hn : its.toArray.size = xs.length := PySem.W.readsAll_len hr'
  show wpAny _ _ (call (.builtin "max") [.ref a] [(Str.ofString "default", dw)]) _ _ s
  refine PySem.call_max_walkD (PySem.W.iter_listW (A := X.A.in1) (I.ok.hd hc) hl.isList fun z ez W st hfp hw hk => ?_)
  refine ⟨_, _, _, _, _, _, _, s.heap, (fun i j => PySem.W.dataLt (xs.getD j .none) (xs.getD i .none)), rfl, W, st, hfp, hw, hk, fun hz s' m => ?_, fun hp => ⟨PySem.W.cmpIn_gt (A := X.A.in1) hr' ha (show X.A.units + 1 + _ < _ by omega), fun v s' hP m => ?_⟩⟩
  · obtain ⟨g, tk, rfl, keep⟩ := PySem.W.moved_old ez rfl m
    exact ⟨dv, H, I.kept (t' := tk) keep, rdw, q0 (List.eq_nil_of_length_eq_zero (by omega))⟩
  · obtain ⟨g, tk, rfl, keep⟩ := PySem.W.moved_old ez rfl m
    cases xs with
    | nil => exact absurd hp (by rw [hn]; exact Nat.lt_irrefl 0)
    | cons x xs =>
      have fold := PySem.W.argBest_fold (fun a b => PySem.W.dataLt b a) PyData.none x xs xs.length (Nat.le_refl _)
      rw [List.take_length] at fold
      rw [show its.toArray.size - 1 = xs.length by rw [hn]; rfl] at hP
      have hP' : its[PySem.argBest (fun i j => PySem.W.dataLt ((x :: xs).getD j PyData.none) ((x :: xs).getD i PyData.none)) xs.length]? = some v := by simpa using hP
      obtain ⟨y, hy, ry⟩ := vals_back rv hP'
      refine ⟨y, H, I.kept (t' := tk) keep, ry, q _ y x xs rfl hy ?_⟩
      have e := fold.2
      rw [List.getD_eq_getElem?_getD, List.getElem?_eq_getElem (Nat.lt_of_le_of_lt fold.1 (Nat.lt_succ_self _))] at e
      rw [List.getElem?_eq_getElem (Nat.lt_of_le_of_lt fold.1 (Nat.lt_succ_self _))]
      exact congrArg some e
end
/-! rows of whole numbers: the first number of the greatest -/
theorem row_toks (a : Int) (r : List Int) : PySem.W.keyToks (rowD (a :: r)) = .inl 1 :: .inl a :: PySem.W.keyToksAll (r.map PyData.int) := by
  simp [rowD, PySem.W.keyToks, PySem.W.keyToksAll]
theorem row_lt {a b : Int} {r t : List Int} (h : a < b) : PySem.W.dataLt (rowD (a :: r)) (rowD (b :: t)) = true := by
  unfold PySem.W.dataLt
  rw [row_toks, row_toks, PyProof.Rows.lex_self]
  exact lex_int h _ _
theorem row_le {a b : Int} {r t : List Int} (h : PySem.W.dataLt (rowD (a :: r)) (rowD (b :: t)) = true) : a ≤ b := by
  rcases Int.lt_or_le b a with h1 | h1
  · have := dataLt_asym h
    rw [row_lt h1] at this
    cases this
  · exact h1
theorem row_ge {a b : Int} {r t : List Int} (h : ¬ PySem.W.dataLt (rowD (a :: r)) (rowD (b :: t)) = true) : b ≤ a := by
  rcases Int.lt_or_le a b with h1 | h1
  · exact absurd (row_lt h1) h
  · exact h1
theorem max_rows : ∀ (L : List (Int × List Int)) (x : Int × List Int), ∃ z ∈ x :: L, PySem.W.maxD (rowD (x.1 :: x.2)) (L.map fun y => rowD (y.1 :: y.2)) = rowD (z.1 :: z.2) ∧ ∀ y ∈ x :: L, y.1 ≤ z.1
  | [], x => ⟨x, by simp, rfl, fun y hy => by rw [List.mem_singleton.mp hy]; exact Int.le_refl _⟩
  | y :: L, x => by
    show ∃ z ∈ x :: y :: L, PySem.W.maxD (if PySem.W.dataLt (rowD (x.1 :: x.2)) (rowD (y.1 :: y.2)) = true then rowD (y.1 :: y.2) else rowD (x.1 :: x.2)) (L.map fun y => rowD (y.1 :: y.2)) = rowD (z.1 :: z.2) ∧ ∀ u ∈ x :: y :: L, u.1 ≤ z.1
    split
    · rename_i h
      obtain ⟨z, hz, e, hall⟩ := max_rows L y
      refine ⟨z, List.mem_cons_of_mem _ hz, e, fun u hu => ?_⟩
      rcases List.mem_cons.mp hu with rfl | hu
      · exact Int.le_trans (row_le h) (hall y (by simp))
      · exact hall u hu
    · rename_i h
      obtain ⟨z, hz, e, hall⟩ := max_rows L x
      refine ⟨z, ?_, e, fun u hu => ?_⟩
      · rcases List.mem_cons.mp hz with rfl | hz
        · simp
        · exact List.mem_cons_of_mem _ (List.mem_cons_of_mem _ hz)
      · rcases List.mem_cons.mp hu with rfl | hu
        · exact hall u (by simp)
        rcases List.mem_cons.mp hu with rfl | hu
        · exact Int.le_trans (row_ge h) (hall x (by simp))
        · exact hall u (List.mem_cons_of_mem _ hu)
theorem alike_rows (L : List (List Int)) : PySem.W.AlikeAll (L.map rowD) := by
  refine ⟨fun a ha b hb => ?_, fun a ha => ?_⟩
  · obtain ⟨x, _, rfl⟩ := List.mem_map.mp ha
    obtain ⟨y, _, rfl⟩ := List.mem_map.mp hb
    unfold rowD
    simp only [PySem.W.alike]
    exact alike_ints _ _
  · obtain ⟨x, _, rfl⟩ := List.mem_map.mp ha
    unfold rowD
    exact fun h => by cases h
end Ml
namespace Ml
open PySem PySem.Spec PyProof.Rows L2
/-! ### groups -/
structure GrF (F : Nat → Nat → Int) (n : Nat) (l : Int) : Prop where
  self : ∀ i, i < n → F i i ≤ l
  sym : ∀ i j, F i j = F j i
  tri : ∀ i j k, i < n → j < n → k < n → F i j ≤ max (F i k) (F k j)
def grp (F : Nat → Nat → Int) (n : Nat) (l : Int) (i : Nat) : List Nat := (List.range n).filter fun j => decide (F i j ≤ l)
theorem mem_grp {F : Nat → Nat → Int} {n : Nat} {l : Int} {i j : Nat} : j ∈ grp F n l i ↔ j < n ∧ F i j ≤ l := by
  unfold grp
  rw [List.mem_filter, List.mem_range, decide_eq_true_iff]
theorem grp_len (F : Nat → Nat → Int) (n : Nat) (l : Int) (i : Nat) : (grp F n l i).length ≤ n := by
  have := List.length_filter_le (fun j => decide (F i j ≤ l)) (List.range n)
  rw [List.length_range] at this
  exact this
theorem grp_asc (F : Nat → Nat → Int) (n : Nat) (l : Int) (i : Nat) : (grp F n l i).Pairwise (· < ·) := List.Pairwise.filter _ List.pairwise_lt_range
section
variable {F : Nat → Nat → Int} {n : Nat} {l : Int}
theorem grp_self (G : GrF F n l) {i : Nat} (hi : i < n) : i ∈ grp F n l i := mem_grp.mpr ⟨hi, G.self i hi⟩
theorem grp_same (G : GrF F n l) {i j : Nat} (hi : i < n) (h : j ∈ grp F n l i) : grp F n l j = grp F n l i := by
  obtain ⟨hj, hij⟩ := mem_grp.mp h
  unfold grp
  refine List.filter_congr fun k hk => ?_
  have hk := List.mem_range.mp hk
  have e1 := G.tri j k i hj hk hi
  have e2 := G.tri i k j hi hk hj
  have e3 := G.sym i j
  refine decide_eq_decide.mpr ⟨fun h => ?_, fun h => ?_⟩ <;> omega
end
theorem grp_ne {F : Nat → Nat → Int} {n : Nat} {l : Int} (G : GrF F n l) {i : Nat} (hi : i < n) : grp F n l i ≠ [] := fun e => by
  have := grp_self G hi
  rw [e] at this
  cases this
def hdI (k : List Int) : Int := k.headD 0
theorem hd_mem {k : List Nat} (h : k ≠ []) : ∃ m, m ∈ k ∧ hdI (iL k) = (m : Int) ∧ k.head? = some m := by
  cases k with
  | nil => exact absurd rfl h
  | cons a k => exact ⟨a, by simp, rfl, rfl⟩
/-- the groups in the order of their first items -/
def heads (F : Nat → Nat → Int) (n : Nat) (l : Int) (m : Nat) : List Nat := (List.range m).filter fun i => decide ((grp F n l i).head? = some i)
def gsL (F : Nat → Nat → Int) (n : Nat) (l : Int) (m : Nat) : List (List Nat) := (heads F n l m).map (grp F n l)
theorem gsL_len (F : Nat → Nat → Int) (n : Nat) (l : Int) (m : Nat) : (gsL F n l m).length ≤ m := by
  unfold gsL heads
  rw [List.length_map]
  have := List.length_filter_le (fun i => decide ((grp F n l i).head? = some i)) (List.range m)
  rw [List.length_range] at this
  exact this
theorem asc_by {α : Type} (f : α → Int) : ∀ {l m : List α}, l.Pairwise (fun a b => f a < f b) → m.Pairwise (fun a b => f a < f b) → (∀ k, k ∈ l ↔ k ∈ m) → l = m
  | [], [], _, _, _ => rfl
  | [], b :: m, _, _, h => absurd ((h b).mpr List.mem_cons_self) List.not_mem_nil
  | a :: l, [], _, _, h => absurd ((h a).mp List.mem_cons_self) List.not_mem_nil
  | a :: l, b :: m, h1, h2, h => by
    obtain ⟨p1, q1⟩ := List.pairwise_cons.mp h1
    obtain ⟨p2, q2⟩ := List.pairwise_cons.mp h2
    have e : a = b := by
      rcases List.mem_cons.mp ((h a).mp List.mem_cons_self) with e | e
      · exact e
      · rcases List.mem_cons.mp ((h b).mpr List.mem_cons_self) with g | g
        · exact g.symm
        · have := p1 b g
          have := p2 a e
          omega
    subst e
    rw [asc_by f q1 q2 fun k => ?_]
    constructor
    · intro hk
      rcases List.mem_cons.mp ((h k).mp (List.mem_cons_of_mem _ hk)) with e | e
      · subst e
        have := p1 k hk
        omega
      · exact e
    · intro hk
      rcases List.mem_cons.mp ((h k).mpr (List.mem_cons_of_mem _ hk)) with e | e
      · subst e
        have := p2 k hk
        omega
      · exact e
theorem gsL_asc (F : Nat → Nat → Int) (n : Nat) (l : Int) (m : Nat) : ((gsL F n l m).map iL).Pairwise (fun a b => hdI a < hdI b) := by
  unfold gsL heads
  rw [List.map_map]
  refine List.pairwise_map.mpr ?_
  refine List.Pairwise.imp_of_mem (fun {a b} ha hb h => ?_) (List.Pairwise.filter _ List.pairwise_lt_range)
  have h1 : (grp F n l a).head? = some a := of_decide_eq_true (List.mem_filter.mp ha).2
  have h2 : (grp F n l b).head? = some b := of_decide_eq_true (List.mem_filter.mp hb).2
  have e1 : hdI (iL (grp F n l a)) = (a : Int) := by
    cases e : grp F n l a with
    | nil => rw [e] at h1; cases h1
    | cons c r => rw [e] at h1; cases h1; rfl
  have e2 : hdI (iL (grp F n l b)) = (b : Int) := by
    cases e : grp F n l b with
    | nil => rw [e] at h2; cases h2
    | cons c r => rw [e] at h2; cases h2; rfl
  show hdI (iL (grp F n l a)) < hdI (iL (grp F n l b))
  rw [e1, e2]
  omega
theorem mem_gsL {F : Nat → Nat → Int} {n : Nat} {l : Int} (G : GrF F n l) {k : List Nat} : k ∈ gsL F n l n ↔ ∃ i, i < n ∧ k = grp F n l i := by
  unfold gsL heads
  rw [List.mem_map]
  constructor
  · rintro ⟨i, hi, rfl⟩
    exact ⟨i, List.mem_range.mp (List.mem_filter.mp hi).1, rfl⟩
  · rintro ⟨i, hi, rfl⟩
    obtain ⟨m, hm, _, hh⟩ := hd_mem (grp_ne G hi)
    have hmn := (mem_grp.mp hm).1
    have e := grp_same G hi hm
    refine ⟨m, List.mem_filter.mpr ⟨List.mem_range.mpr hmn, decide_eq_true ?_⟩, e⟩
    rw [e]
    exact hh
/-- what sorted makes of the set of all groups -/
theorem groups_sorted {F : Nat → Nat → Int} {n : Nat} {l : Int} (G : GrF F n l) {ks : List (List Int)} (h1 : ∀ k ∈ ks, ∃ i, i < n ∧ k = iL (grp F n l i)) (h2 : ∀ i, i < n → iL (grp F n l i) ∈ ks) (nd : ks.Nodup) (srt : ks.Pairwise fun q r => PySem.W.dataLt (rowD r) (rowD q) = false) : ks = (gsL F n l n).map iL := by
  refine asc_by hdI ?_ (gsL_asc F n l n) fun k => ?_
  · refine (List.Pairwise.and srt nd).imp_of_mem fun {q r} hq hr h => ?_
    obtain ⟨i, hi, rfl⟩ := h1 q hq
    obtain ⟨j, hj, rfl⟩ := h1 r hr
    obtain ⟨a, ha, ea, _⟩ := hd_mem (grp_ne G hi)
    obtain ⟨b, hb, eb, _⟩ := hd_mem (grp_ne G hj)
    rw [ea, eb]
    rcases Nat.lt_trichotomy a b with z | z | z
    · omega
    · exfalso
      subst z
      exact h.2 (by rw [← grp_same G hi ha, ← grp_same G hj hb])
    · exfalso
      have lt : PySem.W.dataLt (rowD (iL (grp F n l j))) (rowD (iL (grp F n l i))) = true := by
        cases e1 : grp F n l i with
        | nil => exact absurd e1 (grp_ne G hi)
        | cons x r1 =>
          cases e2 : grp F n l j with
          | nil => exact absurd e2 (grp_ne G hj)
          | cons y r2 =>
            rw [e1] at ea
            rw [e2] at eb
            have ea' : (x : Int) = (a : Int) := ea
            have eb' : (y : Int) = (b : Int) := eb
            exact row_lt (show (y : Int) < (x : Int) by omega)
      rw [lt] at h
      cases h.1
  · rw [List.mem_map]
    constructor
    · intro hk
      obtain ⟨i, hi, rfl⟩ := h1 k hk
      exact ⟨_, (mem_gsL G).mpr ⟨i, hi, rfl⟩, rfl⟩
    · rintro ⟨g, hg, rfl⟩
      obtain ⟨i, hi, rfl⟩ := (mem_gsL G).mp hg
      exact h2 i hi
end Ml
namespace Ml
open PySem PySem.Spec PyProof.Rows L2
/-- a comprehension over an enumerated tuple -/
theorem lc_enumT {K : PySem.W.Frag} {a : Addr} {xs : List V} {g : TG} {tt : L2.TT} {te : TE} {vs : List Nat} {σ : L2.St} {H1 : Hp} {D : Addr} {Qd : Hp → Prop} (Pv : Nat → Hp → Prop) (h0 : Pv 0 (upd H1 D (.lst [])))
    (hq : ∀ i H, i ≤ xs.length → Pv i H → SqT K H a xs)
    (hs : ∀ i x T H, xs[i]? = some x → Pv i H → H T = none → g (.ref T) (wipe σ vs) (upd H T (.tup [.int (i : Nat), x])) fun σ2 H2 => wipe σ2 vs = wipe σ vs ∧ tt σ2 H2 fun b H3 =>
      if b = true then te σ2 H3 fun y H4 => ∃ acc, H4 D = some (.lst acc) ∧ acc.length < sizeLine ∧ Pv (i + 1) (upd H4 D (.lst (acc ++ [y]))) else Pv (i + 1) H3) (hd : ∀ H, Pv xs.length H → Qd H) :
    ∃ W : Nat → Nat → Hp → Prop, (∃ m, W 0 m (upd H1 D (.lst []))) ∧ ∀ i m H, W i m H →
      ((Iet K a).stop i H ∧ Qd H) ∨ ((Iet K a).go i H ∧ ∃ Nx : Hp → Prop, (∀ H', Nx H' → ∃ m', m' < m ∧ W (i + 1) m' H') ∧ ∀ x H', (Iet K a).yld i H x H' → g x (wipe σ vs) H' fun σ2 H2 => wipe σ2 vs = wipe σ vs ∧ tt σ2 H2 fun b H3 =>
        if b = true then te σ2 H3 fun y H4 => ∃ acc, H4 D = some (.lst acc) ∧ acc.length < sizeLine ∧ Nx (upd H4 D (.lst (acc ++ [y]))) else Nx H3) := by
  refine ⟨fun i m H => m = xs.length - i ∧ i ≤ xs.length ∧ Pv i H, ⟨xs.length, by simp, Nat.zero_le _, h0⟩, ?_⟩
  rintro i m H ⟨rfl, hi, p⟩
  have q1 := hq i H hi p
  by_cases hlt : i < xs.length
  · refine .inr ⟨⟨xs, _, q1, List.getElem?_eq_getElem hlt⟩, Pv (i + 1), fun H' p' => ⟨xs.length - (i + 1), by omega, rfl, hlt, p'⟩, fun v H' y => ?_⟩
    obtain ⟨T, x, rfl, hT, rfl, f1⟩ := y
    exact hs i x T H (f1 xs q1) p hT
  · have e : i = xs.length := by omega
    subst e
    exact .inl ⟨⟨xs, q1, rfl⟩, hd H p⟩
theorem slKW (K : PySem.W.Frag) {X : Cx} (h : X.K = K) : SlR X (rSlW K) := h ▸ sl_tupW
end Ml
namespace Ml
open PySem PySem.Spec PyProof.Rows L2
/-! equal tables, equal data -/
theorem eqvAll_rows : ∀ (a b : List (List Int)), PyData.eqvAll (a.map rowD) (b.map rowD) = decide (a = b)
  | [], [] => by simp [PyData.eqvAll]
  | [], _ :: _ => by simp [PyData.eqvAll]
  | _ :: _, [] => by simp [PyData.eqvAll]
  | x :: a, y :: b => by
    rw [List.map_cons, List.map_cons]
    unfold PyData.eqvAll
    rw [eqvAll_rows a b]
    have e : PyData.eqv (rowD x) (rowD y) = decide (x = y) := eqv_tup x y
    rw [e]
    by_cases h1 : x = y <;> by_cases h2 : a = b <;> simp [h1, h2]
theorem eqv_tabs (a b : List (List Int)) : PyData.eqv (tabD a) (tabD b) = decide (a = b) := by
  unfold tabD
  unfold PyData.eqv
  exact eqvAll_rows a b
end Ml
namespace Ml
open PySem PySem.Spec PyProof.Rows L2 TL
/-! ### texts as lists of signs -/
def numI (i : Int) : List Nat := numL i.toNat
theorem tl_int {i : Int} (h : 0 ≤ i) : tl (toString i : Str) = numI i := by
  obtain ⟨n, rfl⟩ : ∃ n : Nat, i = (n : Int) := ⟨i.toNat, by omega⟩
  exact tl_num n
theorem numI_len {i : Int} (h : i < 10000000000000) : (numI i).length ≤ 13 := numL_len (by decide) (by
  have e : (10 : Nat) ^ 13 = 10000000000000 := by decide
  omega)
theorem numI_free {i : Int} {s : Nat} (h : s < 48 ∨ 57 < s) : s ∉ numI i := numL_free h
theorem digit_ok : ∀ c : Nat, c < 58 → 48 ≤ c → Unicode.isDigit c = true := by decide
theorem num_facts {s : Str} {i : Int} (h0 : 0 ≤ i) (h : i < 10000000000000) (e : tl s = numI i) : Txt.removeprefix s ("-" : Str) = s ∧ Txt.isascii s = true ∧ Txt.isdigit s = true ∧ s.length ≤ 13 ∧ intText? s = some i ∧ s = (toString i : Str) := by
  have dg : ∀ c ∈ tl s, 48 ≤ c ∧ c ≤ 57 := fun c hc => by
    rw [e] at hc
    have := numL_digits i.toNat c hc
    omega
  have ne : tl s ≠ [] := by rw [e]; exact numL_ne _
  have es : s = (toString i : Str) := ext_tl (by rw [e, tl_int h0])
  have len : s.length ≤ 13 := by rw [len_tl, e]; exact numI_len h
  refine ⟨?_, ?_, ?_, len, ?_, es⟩
  · have no : Builtin.Str.subAt s ("-" : Str) 0 = false := by
      rw [PySem.StrLaws.subAt_eq, beq_eq_false_iff_ne]
      intro z
      have m : ("-" : Str).cps.toList = [45] := by decide +kernel
      have m2 : ("-" : Str).length = 1 := by decide +kernel
      rw [m, m2, List.drop_zero] at z
      cases hc : s.cps.toList with
      | nil => exact ne hc
      | cons c r =>
        rw [hc] at z
        have z1 : c = 45 := (List.cons.inj z).1
        have := dg c (by show c ∈ s.cps.toList; rw [hc]; exact List.mem_cons_self)
        omega
    unfold Txt.removeprefix
    rw [no]
    rfl
  · show s.cps.all (· < 128) = true
    rw [← Array.all_toList]
    refine List.all_eq_true.mpr fun c hc => ?_
    have := dg c hc
    exact decide_eq_true (by omega)
  · show (decide (s.length > 0) && s.cps.all Unicode.isDigit) = true
    rw [Bool.and_eq_true]
    refine ⟨decide_eq_true ?_, ?_⟩
    · rw [len_tl]
      exact List.length_pos_iff.mpr ne
    · rw [← Array.all_toList]
      refine List.all_eq_true.mpr fun c hc => ?_
      have := dg c hc
      exact digit_ok c (by omega) this.1
  · rw [es]
    obtain ⟨n, rfl⟩ : ∃ n : Nat, i = (n : Int) := ⟨i.toNat, by omega⟩
    exact int_num (by have := numI_len h; exact Nat.le_trans this (by decide))
/-- a text split at one sign -/
theorem split_codes {s y : Str} {c : Nat} (ey : tl y = [c]) (hk : y.cps.all (· < 256) = true) {parts : List (List Nat)} (hne : parts ≠ []) (hp : ∀ p ∈ parts, c ∉ p) (hs : tl s = joinL [c] parts) : (Txt.split s y).map tl = parts := by
  rw [split_spl _ y (by rw [ey]; simp) (kind_ok hk), ey, hs]
  exact spl_join hne hp
theorem joinL_flat (S : List Nat) : ∀ (w : List Nat) (ps : List (List Nat)), joinL S (w :: ps) = w ++ ps.flatMap (fun p => S ++ p)
  | w, [] => by simp [joinL]
  | w, p :: ps => by
    show w ++ (S ++ joinL S (p :: ps)) = _
    rw [joinL_flat S p ps, List.flatMap_cons, List.append_assoc]
theorem joinL_lines (ls : List (List Nat)) : joinL [10] (ls ++ [[]]) = ls.flatMap fun l => l ++ [10] := by
  induction ls with
  | nil => rfl
  | cons a ls ih =>
    obtain ⟨b, r, e⟩ : ∃ b r, ls ++ [[]] = b :: r := by
      cases ls with
      | nil => exact ⟨_, _, rfl⟩
      | cons b r => exact ⟨_, _, rfl⟩
    rw [List.cons_append, List.flatMap_cons, ← ih, e]
    show a ++ ([10] ++ joinL [10] (b :: r)) = _
    rw [List.append_assoc]
theorem lenJ {S : List Nat} {B : Nat} : ∀ {ps : List (List Nat)}, (∀ p ∈ ps, p.length + S.length ≤ B) → (joinL S ps).length ≤ B * ps.length
  | [], _ => Nat.zero_le _
  | p :: ps, h => by
    rw [joinL_flat, List.length_append, List.length_cons]
    have h1 := h p List.mem_cons_self
    have h2 : ∀ qs : List (List Nat), (∀ q ∈ qs, q.length + S.length ≤ B) → (qs.flatMap fun q => S ++ q).length ≤ B * qs.length := fun qs => by
      induction qs with
      | nil => exact fun _ => Nat.zero_le _
      | cons q qs ih =>
        intro hq
        have a := ih fun x hx => hq x (List.mem_cons_of_mem _ hx)
        have b := hq q List.mem_cons_self
        rw [List.flatMap_cons, List.length_append, List.length_append, List.length_cons, Nat.mul_succ]
        omega
    have := h2 ps fun q hq => h q (List.mem_cons_of_mem _ hq)
    rw [Nat.mul_succ]
    omega
/-! ### the text of a table -/
def wItems : List Nat := [105, 116, 101, 109, 115]
def wRow : List Nat := [114, 111, 119]
def cI (n : Nat) : List Nat := wItems ++ (32 :: numL n)
def cR (r : List Int) : List Nat := wRow ++ r.flatMap fun x => 32 :: numI x
def cLines (t : List (List Int)) : List (List Nat) := cI t.length :: (t.drop 1).map cR
def ctab (t : List (List Int)) : List Nat := (cLines t).flatMap fun l => l ++ [10]
theorem cR_join (r : List Int) : cR r = joinL [32] (wRow :: r.map numI) := by
  rw [joinL_flat, List.flatMap_map]
  rfl
theorem cR_len {r : List Int} (h : ∀ x ∈ r, LvOk x) : (cR r).length ≤ 3 + 14 * r.length := by
  unfold cR
  have : ∀ q : List Int, (∀ x ∈ q, LvOk x) → (q.flatMap fun x => 32 :: numI x).length ≤ 14 * q.length := fun q => by
    induction q with
    | nil => exact fun _ => Nat.zero_le _
    | cons x q ih =>
      intro hq
      have a := ih fun y hy => hq y (List.mem_cons_of_mem _ hy)
      have b := numI_len (i := x) (by have := (hq x List.mem_cons_self).2; omega)
      rw [List.flatMap_cons, List.length_append, List.length_cons, List.length_cons, Nat.mul_succ]
      omega
  have a := this r h
  rw [List.length_append]
  have : wRow.length = 3 := rfl
  omega
theorem flat_len {α : Type} {f : α → List Nat} {B : Nat} : ∀ {l : List α}, (∀ x ∈ l, (f x).length ≤ B) → (l.flatMap f).length ≤ B * l.length
  | [], _ => Nat.zero_le _
  | x :: l, h => by
    have a := flat_len (l := l) fun y hy => h y (List.mem_cons_of_mem _ hy)
    have b := h x List.mem_cons_self
    rw [List.flatMap_cons, List.length_append, List.length_cons, Nat.mul_succ]
    omega
theorem cI_len {n : Nat} (h : n ≤ 20) : (cI n).length ≤ 19 := by
  have := numL_len (n := n) (k := 2) (by decide) (by omega)
  unfold cI
  rw [List.length_append, List.length_cons]
  have : wItems.length = 5 := rfl
  omega
theorem nf_items : (10 : Nat) ∉ wItems ∧ (32 : Nat) ∉ wItems := by decide
theorem nf_row : (10 : Nat) ∉ wRow ∧ (32 : Nat) ∉ wRow := by decide
theorem cI_free (n : Nat) : (10 : Nat) ∉ cI n := fun h => by
  rcases List.mem_append.mp h with h | h
  · exact nf_items.1 h
  · rcases List.mem_cons.mp h with h | h
    · exact absurd h (by decide)
    · exact numL_free (by omega) h
theorem cR_free (r : List Int) : (10 : Nat) ∉ cR r := fun h => by
  rcases List.mem_append.mp h with h | h
  · exact nf_row.1 h
  · obtain ⟨x, _, h⟩ := List.mem_flatMap.mp h
    rcases List.mem_cons.mp h with h | h
    · exact absurd h (by decide)
    · exact numI_free (by omega) h
theorem lines_free {t : List (List Int)} : ∀ p ∈ cLines t ++ [[]], (10 : Nat) ∉ p := fun p hp => by
  rcases List.mem_append.mp hp with hp | hp
  · rcases List.mem_cons.mp hp with rfl | hp
    · exact cI_free _
    · obtain ⟨r, _, rfl⟩ := List.mem_map.mp hp
      exact cR_free r
  · rw [List.mem_singleton.mp hp]
    exact List.not_mem_nil
theorem ctab_join (t : List (List Int)) : ctab t = joinL [10] (cLines t ++ [[]]) := (joinL_lines _).symm
theorem words_free (r : List Int) : ∀ p ∈ wRow :: r.map numI, (32 : Nat) ∉ p := fun p hp => by
  rcases List.mem_cons.mp hp with rfl | hp
  · exact nf_row.2
  · obtain ⟨x, _, rfl⟩ := List.mem_map.mp hp
    exact numI_free (by omega)
theorem wt_row {t : List (List Int)} (hW : WT t) {r : List Int} (h : r ∈ t) : ∀ x ∈ r, LvOk x := by
  obtain ⟨i, hi⟩ := List.getElem?_of_mem h
  exact (hW i r hi).2
/-! ### the text of a tree -/
mutual
def ctx : PyData → List Nat
  | .int i => numI i
  | .tuple ds => 40 :: (joinL [32] (ctxAll ds) ++ [41])
  | _ => []
def ctxAll : List PyData → List (List Nat)
  | [] => []
  | d :: ds => ctx d :: ctxAll ds
end
theorem ctxAll_map : ∀ ds : List PyData, ctxAll ds = ds.map ctx
  | [] => by unfold ctxAll; rfl
  | d :: ds => by
    unfold ctxAll
    rw [ctxAll_map ds]
    rfl
theorem ctx_int (i : Int) : ctx (.int i) = numI i := by unfold ctx; rfl
theorem ctx_tup (ds : List PyData) : ctx (.tuple ds) = 40 :: (joinL [32] (ds.map ctx) ++ [41]) := by
  rw [← ctxAll_map]
  conv => lhs; unfold ctx
end Ml
namespace Ml
open PySem PySem.Spec PyProof.Rows L2 TL
/-! ### reading any text: what a word, a line, a text says -/
/-! ### splitting and joining: how long -/
def ms (ps : List (List Nat)) : Nat := (ps.map fun p => p.length + 1).sum
theorem ms_nil : ms [] = 0 := rfl
theorem ms_cons (p : List Nat) (ps : List (List Nat)) : ms (p :: ps) = p.length + 1 + ms ps := rfl
theorem ms_app (a b : List (List Nat)) : ms (a ++ b) = ms a + ms b := by
  unfold ms
  rw [List.map_append, List.sum_append]
theorem spl_ms (S : List Nat) : ∀ (l : List Nat) (k : Nat) (acc : List Nat), ms (spl S k acc l) ≤ acc.length + l.length + 1
  | [], k, acc => by rw [spl_nil]; rw [ms_cons, ms_nil]; simp
  | c :: r, 0, acc => by
    unfold spl
    split
    · rw [ms_cons]
      have := spl_ms S r (S.length - 1) []
      simp only [List.length_nil, List.length_cons] at *
      omega
    · have := spl_ms S r 0 (acc ++ [c])
      rw [List.length_append] at this
      simp only [List.length_nil, List.length_cons] at *
      omega
  | c :: r, k + 1, acc => by
    unfold spl
    have := spl_ms S r k acc
    rw [List.length_cons]
    omega
theorem spl_ne (S : List Nat) : ∀ (l : List Nat) (k : Nat) (acc : List Nat), spl S k acc l ≠ []
  | [], k, acc => by rw [spl_nil]; simp
  | c :: r, 0, acc => by
    unfold spl
    split
    · simp
    · exact spl_ne S r 0 _
  | c :: r, k + 1, acc => by
    unfold spl
    exact spl_ne S r k acc
def mS (ps : List Str) : Nat := ms (ps.map tl)
theorem mS_cons (p : Str) (ps : List Str) : mS (p :: ps) = p.length + 1 + mS ps := by
  unfold mS
  rw [List.map_cons, ms_cons, len_tl]
theorem mS_app (a b : List Str) : mS (a ++ b) = mS a + mS b := by
  unfold mS
  rw [List.map_append, ms_app]
theorem mS_mem {p : Str} : ∀ {ps : List Str}, p ∈ ps → p.length + 1 ≤ mS ps
  | q :: ps, h => by
    rw [mS_cons]
    rcases List.mem_cons.mp h with rfl | h
    · omega
    · have := mS_mem h
      omega
theorem mS_len : ∀ (ps : List Str), ps.length ≤ mS ps
  | [] => Nat.le_refl _
  | p :: ps => by
    rw [mS_cons, List.length_cons]
    have := mS_len ps
    omega
theorem mS_take (k : Nat) (ps : List Str) : mS (ps.take k) + mS (ps.drop k) = mS ps := by
  rw [← mS_app, List.take_append_drop]
theorem split_ms {s y : Str} {c : Nat} (ey : tl y = [c]) (hk : y.cps.all (· < 256) = true) : mS (Txt.split s y) ≤ s.length + 1 ∧ Txt.split s y ≠ [] := by
  have e : (Txt.split s y).map tl = spl [c] 0 [] (tl s) := by
    rw [split_spl _ y (by rw [ey]; simp) (kind_ok hk), ey]
  refine ⟨?_, fun z => ?_⟩
  · unfold mS
    rw [e, len_tl]
    have := spl_ms [c] (tl s) 0 []
    simpa using this
  · rw [z] at e
    exact absurd e.symm (spl_ne _ _ _ _)
end Ml
namespace Ml
open PySem PySem.Spec PyProof.Rows L2
/-! ### written values: laid anew, at addresses that were free in H0 -/
mutual
inductive Fv (H0 H : Hp) : V → PyData → Prop
  | non : Fv H0 H .non .none
  | bl (b : Bool) : Fv H0 H (.bl b) (.bool b)
  | int (i : Int) : Fv H0 H (.int i) (.int i)
  | str (x : Str) : Fv H0 H (.str x) (.str x)
  | tup {a : Addr} {xs : List V} {ds : List PyData} : H a = some (.tup xs) → H0 a = none → FvAll H0 H xs ds → Fv H0 H (.ref a) (.tuple ds)
  | lst {a : Addr} {xs : List V} {ds : List PyData} : H a = some (.lst xs) → H0 a = none → FvAll H0 H xs ds → Fv H0 H (.ref a) (.list ds)
  | dct {a : Addr} : H a = some (.dK []) → H0 a = none → Fv H0 H (.ref a) (.dict [])
inductive FvAll (H0 H : Hp) : List V → List PyData → Prop
  | nil : FvAll H0 H [] []
  | cons {v : V} {vs : List V} {d : PyData} {ds : List PyData} : Fv H0 H v d → FvAll H0 H vs ds → FvAll H0 H (v :: vs) (d :: ds)
end
theorem FvAll.len {H0 H : Hp} : ∀ {ds : List PyData} {vs : List V}, FvAll H0 H vs ds → vs.length = ds.length
  | _, _, .nil => rfl
  | _, _, .cons _ b => by rw [List.length_cons, List.length_cons, b.len]
theorem FvAll.at {H0 H : Hp} : ∀ {ds : List PyData} {vs : List V}, FvAll H0 H vs ds → ∀ {i : Nat} {v : V}, vs[i]? = some v → ∃ d, ds[i]? = some d ∧ Fv H0 H v d
  | _, _, .nil, i, v, e => by simp at e
  | _, _, .cons a b, 0, v, e => by cases Option.some.inj e; exact ⟨_, rfl, a⟩
  | _, _, .cons a b, i + 1, v, e => FvAll.at b (i := i) (by simpa using e)
theorem FvAll.append {H0 H : Hp} : ∀ {ds es : List PyData} {vs us : List V}, FvAll H0 H vs ds → FvAll H0 H us es → FvAll H0 H (vs ++ us) (ds ++ es)
  | _, _, _, _, .nil, h => h
  | _, _, _, _, .cons a b, h => .cons a (FvAll.append b h)
/-! ### the readings of written values -/
end Ml
namespace Ml
open PySem PySem.Spec PyProof.Rows L2
/-! ### a tuple turned round; a tuple of data that has one -/
theorem turn_bounds (n : Nat) : Builtin.Slice.sliceAdjust none none (-1) (n : Int) = ((n : Int) - 1, -1) := by
  unfold Builtin.Slice.sliceAdjust
  simp only [show ((-1 : Int) < 0) from by decide, if_true]
theorem turn_places (n : Nat) : Builtin.Slice.slicePlaces ((n : Int) - 1) (-1) (-1) = n := by
  unfold Builtin.Slice.slicePlaces
  rw [if_neg (by decide)]
  by_cases h : (n : Int) - 1 > -1
  · rw [if_pos h, show (-(-1 : Int)) = 1 from rfl, Int.ediv_one]
    omega
  · rw [if_neg h]
    omega
theorem filt_map {α β : Type} {f : α → Option β} {g : α → β} : ∀ {l : List α}, (∀ x ∈ l, f x = some (g x)) → l.filterMap f = l.map g
  | [], _ => rfl
  | a :: l, h => by
    rw [List.filterMap_cons, h a (List.mem_cons_self ..), List.map_cons, filt_map fun x hx => h x (List.mem_cons_of_mem _ hx)]
theorem turn_pick (xs : Array Value) : ((List.range xs.size).filterMap fun (m : Nat) => xs[(((xs.size : Int) - 1) + (m : Int) * (-1)).toNat]?).toArray = xs.toList.reverse.toArray := by
  congr 1
  refine List.ext_getElem? fun i => ?_
  have e : (List.range xs.size).filterMap (fun (m : Nat) => xs[(((xs.size : Int) - 1) + (m : Int) * (-1)).toNat]?) = (List.range xs.size).map (fun m => xs.toList.getD (xs.size - 1 - m) .none) := by
    refine filt_map fun m hm => ?_
    have hm := List.mem_range.mp hm
    have z : (((xs.size : Int) - 1) + (m : Int) * (-1)).toNat = xs.size - 1 - m := by omega
    rw [z]
    rw [List.getD_eq_getElem?_getD, Array.getElem?_toList, Array.getElem?_eq_getElem (by omega)]
    rfl
  rw [e, List.getElem?_map]
  by_cases hi : i < xs.size
  · rw [List.getElem?_range hi, List.getElem?_reverse (by rw [Array.length_toList]; exact hi), Array.length_toList]
    show some (xs.toList.getD (xs.size - 1 - i) .none) = _
    rw [List.getD_eq_getElem?_getD, List.getElem?_eq_getElem (by rw [Array.length_toList]; omega)]
    rfl
  · rw [List.getElem?_eq_none (by rw [List.length_range]; omega), List.getElem?_eq_none (by rw [List.length_reverse, Array.length_toList]; omega)]
    rfl
section
variable {prog : Program} {w : World} {A : Around} {E : Value → Shared → Prop} {s : Shared}
theorem cut_turned {B : Around} {F : Value → Shared → Prop} {sl : Addr} {vl vu vs : Value} {n : Nat} {Q : Int × Int × Nat → Shared → Prop} (hs : s.heap.IsSliceOf sl vl vu vs) (pl : IsPart vl none) (pu : IsPart vu none) (ps : IsPart vs (some (-1))) (h : Q ((n : Int) - 1, -1, n) s) :
    wpAny (model prog w) B (Builtin.Slice.sliceApplied (.ref sl) (pure (n : Int))) Q F s := by
  obtain ⟨os, hos, hcs, hds⟩ := id hs
  unfold Builtin.Slice.sliceApplied Builtin.Slice.sliceFields
  refine wpAny_bind (wpAny_bind (wpAny_field hos hds (x := vl) rfl (wpAny_bind (wpAny_field hos hds (x := vu) rfl (wpAny_bind (wpAny_field hos hds (x := vs) rfl (wpAny_pure ?_)))))))
  refine wpAny_bind (HT.slicePart_ ps ?_)
  show wpAny _ _ (if ((-1 : Int) == 0) = true then _ else _) _ _ s
  rw [if_neg (by decide)]
  refine wpAny_bind (HT.slicePart_ pl (wpAny_bind (HT.slicePart_ pu (wpAny_bind (wpAny_pure ?_)))))
  show wpAny _ _ (match Builtin.Slice.sliceAdjust none none (-1) (n : Int) with | (lo, hi) => pure (lo, (-1 : Int), Builtin.Slice.slicePlaces lo hi (-1))) _ _ s
  rw [turn_bounds]
  show wpAny _ _ (pure ((n : Int) - 1, (-1 : Int), Builtin.Slice.slicePlaces ((n : Int) - 1) (-1) (-1))) _ _ s
  rw [turn_places]
  exact wpAny_pure h
theorem turned {t sl : Addr} {items : Array Value} {vl vu vs : Value} {Q : Value → Shared → Prop} (ht : PyProof.Rows.IsTup s.heap t items) (hs : s.heap.IsSliceOf sl vl vu vs) (pl : IsPart vl none) (pu : IsPart vu none) (ps : IsPart vs (some (-1)))
    (h : Q (.ref s.heap.objs.size) { s with heap := s.heap.push { cls := .type "tuple", data := .seq items.toList.reverse.toArray } }) (hsz : items.size ≤ sizeLine) : wpAny (model prog w) A (getItem (.ref t) (.ref sl)) Q E s := by
  have fits : sizeOk (.seq items.toList.reverse.toArray) := by
    show items.toList.reverse.toArray.size ≤ sizeLine
    rw [List.size_toArray, List.length_reverse, Array.length_toList]
    exact hsz
  obtain ⟨os, hos, hcs, hds⟩ := id hs
  have isS : s.TypeIs (.ref sl) "slice" := ⟨os, hos, hcs⟩
  have isT : s.TypeIs (.ref t) "tuple" := ht.typeIs
  unfold getItem
  try with_reducible refine wpAny_holding ?_
  first | refine wpAny_bind (wpAny_pure ?_) | skip
  refine wpAny_bind (wpAny_sequenceKey isT (by decide) ?_)
  refine wpAny_bind (wpAny_callSpecial?_slot (name := Str.ofString "__getitem__") isT PyProof.Rows.slot_tuple_getitem (wpAny_call_entry PyProof.Rows.slot_tuple_getitem isT entry_tuple_getitem ?_ (args_tuple_getitem _ _)))
  show wpAny _ _ (Builtin.Tuple.tupleItemsOf (.ref t) >>= _) _ _ s
  refine wpAny_bind (PyProof.Rows.tupleItemsOf_ ht ?_)
  refine wpAny_bind (wpAny_typeOf isS ?_)
  rw [if_pos (by decide)]
  refine wpAny_bind (cut_turned hs pl pu ps ?_)
  show wpAny _ _ (if (((items.size : Int) - 1 == 0) && ((-1 : Int) == 1) && (items.size == items.size)) = true then _ else _) _ _ s
  rw [if_neg (by simp), turn_pick]
  first
    | exact wpAny_bind (m := Builtin.Tuple.tupleExact _) (wpAny_newObj_type (wpAny_pure ⟨_, rfl, wpAny_pure h⟩) fits)
    | exact wpAny_bind (m := Builtin.Tuple.tupleExact _) (wpAny_newObj_type (wpAny_bind (wpAny_pure (wpAny_pure ⟨_, rfl, wpAny_pure h⟩))) fits)
    | exact wpAny_bind (wpAny_bind (m := Builtin.Tuple.tupleExact _) (wpAny_newObj_type (wpAny_pure (wpAny_pure ⟨_, rfl, wpAny_pure h⟩)) fits))
    | exact wpAny_bind (wpAny_bind (m := Builtin.Tuple.tupleExact _) (wpAny_newObj_type (wpAny_pure ⟨_, rfl, wpAny_pure h⟩) fits))
end
section
variable {X : Cx}
def tRevT (K : PySem.W.Frag) (te : TE) : TE := fun σ H Q => te σ H fun x H1 => ∃ a xs, x = .ref a ∧ SqT K H1 a xs ∧ ∀ p, H1 p = none → Q (.ref p) (upd H1 p (.tup xs.reverse))
theorem pe_revT {e : Expr} {te : TE} {k : Nat} {p1 p2 p3 pos : Pos} (he : PE X e te) : PE X (.Subscript e (.Slice none none (some (.UnaryOp .USub (.Constant (.int 1) k p1) p2)) p3) pos) (tRevT X.K te) := by
  refine ⟨fun pins s σ H Q I h => ?_⟩
  refine Subscript_ (thn (he.run pins s σ H _ I h) fun v s1 ⟨x, H1, I1, r1, q1⟩ => ?_)
  obtain ⟨a, xs, ex, hx, q⟩ := q1
  subst ex
  cases r1
  have back : PO X (some (.UnaryOp .USub (.Constant (.int 1) k p1) p2)) (tPart (tUn (rU fun i => .int (-i)) (tC (.int 1)))) := po_some (pe_un un_neg pe_int)
  refine wpAny_Slice (thn (po_none.run pins s1 σ H1 (fun o H2 => o = none ∧ H2 = H1) I1 ⟨rfl, rfl⟩) fun vl s2 ⟨l, H2, I2, pl, el, e2⟩ => ?_)
  subst el e2
  refine thn (po_none.run pins s2 σ H2 (fun o H3 => o = none ∧ H3 = H2) I2 ⟨rfl, rfl⟩) fun vu s3 ⟨u, H3, I3, pu, eu, e3⟩ => ?_
  subst eu e3
  refine thn (back.run pins s3 σ H3 (fun o H4 => o = some (-1) ∧ H4 = H3) I3 ⟨1, rfl, -1, rfl, rfl, rfl⟩) fun vs s4 ⟨o, H4, I4, ps, eo, e4⟩ => ?_
  subst eo e4
  have I5 : Inv X pins σ H4 { s4 with heap := s4.heap.push { cls := .type "slice", data := .fields #[vl, vu, vs] } } := I4.kept (t' := s4.toks) fun b ob z => Heap.get?_push_of_some _ z
  obtain ⟨its, r, ht, hz⟩ := I5.tuple hx
  have hlen := r.length
  show wpAny (model X.prog X.w) X.A (subscriptTail e (.Slice none none (some (.UnaryOp .USub (.Constant (.int 1) k p1) p2)) p3) (.ref a) (.ref s4.heap.objs.size)) (EP X pins σ Q) X.xe { s4 with heap := s4.heap.push { cls := .type "slice", data := .fields #[vl, vu, vs] } }
  refine tail_any (ops := [.ref a, .ref s4.heap.objs.size]) ht.typeIs (PyProof.Rows.slot_tuple_getitem.lookup) ?_ (by with_unfolding_all rfl)
  refine turned ht (Heap.IsSliceOf.new _ vl vu vs) pl pu ps ?_ (by rw [List.size_toArray]; omega)
  refine ⟨.ref _, _, I5.laid (t' := s4.toks) (o := .tup xs.reverse) (fun b ob z => Heap.get?_push_of_some _ z) (Nat.le_refl _) ?_, rfl, q _ (I5.hok.fresh (Nat.le_refl _))⟩
  exact ⟨by rw [List.length_reverse]; exact hz, _, r.reverse, IsTup.new _ _⟩
end
end Ml
namespace Ml
open PySem PySem.Spec PyProof.Rows L2
/-! ### new lists lie past the interpreter's own cells -/
/-! ### values of any kind -/
mutual
inductive Da (K : PySem.W.Frag) (ok : Addr → Prop) (H : Hp) : V → PyData → Prop
  | non : Da K ok H .non .none
  | bl (b : Bool) : Da K ok H (.bl b) (.bool b)
  | int (i : Int) : Da K ok H (.int i) (.int i)
  | str (x : Str) : Da K ok H (.str x) (.str x)
  | lst {a : Addr} {xs : List V} {ds : List PyData} : H a = some (.lst xs) → ok a → a ≠ sysModules → DaAll K ok H xs ds → Da K ok H (.ref a) (.list ds)
  | tup {a : Addr} {xs : List V} {ds : List PyData} : SqT K H a xs → DaAll K ok H xs ds → Da K ok H (.ref a) (.tuple ds)
  | dct {a : Addr} : H a = some (.dK []) → ok a → Da K ok H (.ref a) (.dict [])
inductive DaAll (K : PySem.W.Frag) (ok : Addr → Prop) (H : Hp) : List V → List PyData → Prop
  | nil : DaAll K ok H [] []
  | cons {v : V} {vs : List V} {d : PyData} {ds : List PyData} : Da K ok H v d → DaAll K ok H vs ds → DaAll K ok H (v :: vs) (d :: ds)
end
section
variable {K : PySem.W.Frag} {ok : Addr → Prop} {H H' : Hp}
mutual
theorem Da.to (e1 : ∀ a o, H a = some o → ok a → H' a = some o) (e2 : ∀ a xs, SqT K H a xs → SqT K H' a xs) : ∀ {d : PyData} {v : V}, Da K ok H v d → Da K ok H' v d
  | _, _, .non => .non
  | _, _, .bl b => .bl b
  | _, _, .int i => .int i
  | _, _, .str x => .str x
  | _, _, .lst h o n g => .lst (e1 _ _ h o) o n (DaAll.to e1 e2 g)
  | _, _, .tup h g => .tup (e2 _ _ h) (DaAll.to e1 e2 g)
  | _, _, .dct h o => .dct (e1 _ _ h o) o
theorem DaAll.to (e1 : ∀ a o, H a = some o → ok a → H' a = some o) (e2 : ∀ a xs, SqT K H a xs → SqT K H' a xs) : ∀ {ds : List PyData} {vs : List V}, DaAll K ok H vs ds → DaAll K ok H' vs ds
  | _, _, .nil => .nil
  | _, _, .cons a b => .cons (Da.to e1 e2 a) (DaAll.to e1 e2 b)
end
theorem Da.same {d : PyData} {v : V} (h : Da K ok H v d) (e : Sm H H') : Da K ok H' v d := h.to (fun a o h _ => e a o h) fun a xs h => e.sqT h
theorem DaAll.same {ds : List PyData} {vs : List V} (h : DaAll K ok H vs ds) (e : Sm H H') : DaAll K ok H' vs ds := h.to (fun a o h _ => e a o h) fun a xs h => e.sqT h
theorem Da.kp {d c r : Addr} {n : Nat} {x : PyData} {v : V} (h : Da K ok H v x) (hok : ∀ a, ok a → a ≠ d ∧ a ≠ r) (D : Dr H d c r n) (e : Kp d r H H') : Da K ok H' v x :=
  h.to (fun a o h o' => e a o h (hok a o').1 (hok a o').2) fun a xs h => D.kpT e h
theorem DaAll.kp {d c r : Addr} {n : Nat} {ds : List PyData} {vs : List V} (h : DaAll K ok H vs ds) (hok : ∀ a, ok a → a ≠ d ∧ a ≠ r) (D : Dr H d c r n) (e : Kp d r H H') : DaAll K ok H' vs ds :=
  h.to (fun a o h o' => e a o h (hok a o').1 (hok a o').2) fun a xs h => D.kpT e h
theorem DaAll.len : ∀ {ds : List PyData} {vs : List V}, DaAll K ok H vs ds → vs.length = ds.length
  | _, _, .nil => rfl
  | _, _, .cons _ b => by rw [List.length_cons, List.length_cons, b.len]
theorem DaAll.at : ∀ {ds : List PyData} {vs : List V}, DaAll K ok H vs ds → ∀ {i : Nat} {v : V}, vs[i]? = some v → ∃ d, ds[i]? = some d ∧ Da K ok H v d
  | _, _, .nil, i, v, e => by simp at e
  | _, _, .cons a b, 0, v, e => by cases Option.some.inj e; exact ⟨_, rfl, a⟩
  | _, _, .cons a b, i + 1, v, e => DaAll.at b (i := i) (by simpa using e)
theorem DaAll.append : ∀ {ds es : List PyData} {vs us : List V}, DaAll K ok H vs ds → DaAll K ok H us es → DaAll K ok H (vs ++ us) (ds ++ es)
  | _, _, _, _, .nil, h => h
  | _, _, _, _, .cons a b, h => .cons a (DaAll.append b h)
theorem DaAll.take : ∀ (k : Nat) {ds : List PyData} {vs : List V}, DaAll K ok H vs ds → DaAll K ok H (vs.take k) (ds.take k)
  | 0, _, _, _ => by rw [List.take_zero, List.take_zero]; exact .nil
  | k + 1, _, _, .nil => .nil
  | k + 1, _, _, .cons a b => .cons a (DaAll.take k b)
theorem DaAll.drop : ∀ (k : Nat) {ds : List PyData} {vs : List V}, DaAll K ok H vs ds → DaAll K ok H (vs.drop k) (ds.drop k)
  | 0, _, _, h => h
  | k + 1, _, _, .nil => .nil
  | k + 1, _, _, .cons a b => DaAll.drop k b
theorem DaAll.one {v : V} {d : PyData} (h : Da K ok H v d) : DaAll K ok H [v] [d] := .cons h .nil
theorem da_ints : ∀ ns : List Int, DaAll K ok H (ns.map V.int) (ns.map PyData.int)
  | [] => .nil
  | n :: ns => .cons (.int n) (da_ints ns)
theorem IT.da {v : V} {ns : List Int} (h : IT K H v ns) : Da K ok H v (rowD ns) := by
  obtain ⟨p, rfl, hs⟩ := h
  exact .tup hs (da_ints ns)
theorem rows_da : ∀ {vs : List V} {t : List (List Int)}, Rows K H vs t → DaAll K ok H vs (t.map rowD)
  | [], [], _ => .nil
  | [], _ :: _, h => by have := h.1; simp at this
  | _ :: _, [], h => by have := h.1; simp at this
  | v :: vs, ns :: t, h => by
    refine .cons (h.2 0 v ns rfl rfl).da (rows_da (vs := vs) (t := t) ⟨by have := h.1; simpa using this, fun i u ms a b => h.2 (i + 1) u ms (by simpa using a) (by simpa using b)⟩)
theorem TT.da {v : V} {t : List (List Int)} (h : TT K H v t) : Da K ok H v (tabD t) := by
  obtain ⟨p, vs, rfl, hs, hR⟩ := h
  exact .tup hs (rows_da hR)
theorem Da.ty {d : PyData} {v : V} (h : Da K ok H v d) : TyX K H v (.type (tyN d)) := by
  cases h with
  | non => exact .base .non
  | bl b => exact .base (.bl b)
  | int i => exact .base (.int i)
  | str x => exact .base (.str x)
  | lst h _ _ _ => exact .base (.lst h)
  | tup h _ => exact ty_tup h
  | dct h _ => exact .base (.dK h)
theorem kit_tup : ∀ d : PyData, kitB (tyN d) "tuple" = some (match d with | .tuple _ => true | _ => false)
  | .none => (by decide +kernel : kitB "NoneType" "tuple" = some false)
  | .bool _ => (by decide +kernel : kitB "bool" "tuple" = some false)
  | .int _ => (by decide +kernel : kitB "int" "tuple" = some false)
  | .str _ => (by decide +kernel : kitB "str" "tuple" = some false)
  | .list _ => (by decide +kernel : kitB "list" "tuple" = some false)
  | .tuple _ => (by decide +kernel : kitB "tuple" "tuple" = some true)
  | .dict _ => (by decide +kernel : kitB "dict" "tuple" = some false)
theorem kit_int : ∀ d : PyData, kitB (tyN d) "int" = some (match d with | .int _ => true | .bool _ => true | _ => false)
  | .none => (by decide +kernel : kitB "NoneType" "int" = some false)
  | .bool _ => (by decide +kernel : kitB "bool" "int" = some true)
  | .int _ => (by decide +kernel : kitB "int" "int" = some true)
  | .str _ => (by decide +kernel : kitB "str" "int" = some false)
  | .list _ => (by decide +kernel : kitB "list" "int" = some false)
  | .tuple _ => (by decide +kernel : kitB "tuple" "int" = some false)
  | .dict _ => (by decide +kernel : kitB "dict" "int" = some false)
theorem kit_bool : ∀ d : PyData, kitB (tyN d) "bool" = some (match d with | .bool _ => true | _ => false)
  | .none => (by decide +kernel : kitB "NoneType" "bool" = some false)
  | .bool _ => (by decide +kernel : kitB "bool" "bool" = some true)
  | .int _ => (by decide +kernel : kitB "int" "bool" = some false)
  | .str _ => (by decide +kernel : kitB "str" "bool" = some false)
  | .list _ => (by decide +kernel : kitB "list" "bool" = some false)
  | .tuple _ => (by decide +kernel : kitB "tuple" "bool" = some false)
  | .dict _ => (by decide +kernel : kitB "dict" "bool" = some false)
end
/-! ### their texts -/
mutual
theorem Da.reads {X : Cx} {pins : List (Addr × Obj)} {σ : L2.St} {H : Hp} {s : Shared} {ok : Addr → Prop} (I : L2.Inv X pins σ H s) : ∀ {d : PyData} {v : V}, Da X.K ok H v d → ∀ {u : Value}, RelV v u → ∃ as, Reads s.heap u d as ∧ sysModules ∉ as
  | _, _, .non, u, r => by cases r; exact ⟨_, .none, by simp⟩
  | _, _, .bl b, u, r => by cases r; exact ⟨_, .bool b, by simp⟩
  | _, _, .int i, u, r => by obtain ⟨t, rfl⟩ := r; exact ⟨_, .int i t, by simp⟩
  | _, _, .str x, u, r => by obtain ⟨t, rfl⟩ := r; exact ⟨_, .str x t, by simp⟩
  | _, _, .lst (a := a) h o n g, u, r => by
    cases r
    obtain ⟨_, its, m, r', e⟩ := I.hok _ _ h
    obtain ⟨as, ra, na⟩ := DaAll.reads I g r'
    exact ⟨a :: as, .list e rfl rfl (by simpa using ra), fun z => by rcases List.mem_cons.mp z with z | z; exact n z.symm; exact na z⟩
  | _, _, .tup h g, u, r => by
    cases r
    obtain ⟨its, r', ⟨o, ho, hc, m, hd⟩, _⟩ := I.tuple h
    obtain ⟨as, ra, na⟩ := DaAll.reads I g r'
    exact ⟨as, .tuple ho hc hd (by simpa using ra), na⟩
  | _, _, .dct (a := a) h _, u, r => by
    cases r
    obtain ⟨_, hn, vs, kv, o, es, ep, ho, hx, hd, hk, hp, _⟩ := I.hok _ _ h
    cases kv
    have he : es.toList = [] := by cases z : es.toList with | nil => rfl | cons x l => rw [z] at hp; cases hp
    refine ⟨a :: ([] ++ []), .dict (kvs := []) ho hx.1 hd (by rw [he]; exact .nil) (by rw [he]; exact .nil), fun z => ?_⟩
    rcases List.mem_cons.mp z with z | z
    · rw [← z] at hn
      simp at hn
    · simp at z
theorem DaAll.reads {X : Cx} {pins : List (Addr × Obj)} {σ : L2.St} {H : Hp} {s : Shared} {ok : Addr → Prop} (I : L2.Inv X pins σ H s) : ∀ {ds : List PyData} {vs : List V}, DaAll X.K ok H vs ds → ∀ {us : List Value}, Vals vs us → ∃ as, ReadsAll s.heap us ds as ∧ sysModules ∉ as
  | _, _, .nil, us, r => by cases r; exact ⟨_, .nil, by simp⟩
  | _, _, .cons a b, us, r => by
    cases r with
    | cons r1 r2 =>
      obtain ⟨as, ra, na⟩ := Da.reads I a r1
      obtain ⟨bs, rb, nb⟩ := DaAll.reads I b r2
      exact ⟨as ++ bs, .cons ra rb, fun z => by rcases List.mem_append.mp z with z | z; exact na z; exact nb z⟩
end
end Ml
namespace Ml
open PySem PySem.Spec PyProof.Rows L2
/-! ### repr of a value of any kind -/
/-! ### how large values are -/
mutual
def wt : PyData → Nat
  | .none => 4
  | .bool _ => 5
  | .int _ => 45
  | .str x => (reprText x).length
  | .list ds => wtAll ds + 3
  | .tuple ds => wtAll ds + 3
  | .dict _ => 5
def wtAll : List PyData → Nat
  | [] => 0
  | d :: ds => wt d + 2 + wtAll ds
end
theorem wtAll_mem : ∀ {a : List PyData} {d : PyData}, d ∈ a → wt d + 2 ≤ wtAll a
  | [], d, h => by simp at h
  | e :: a, d, h => by
    rcases List.mem_cons.mp h with rfl | h
    · simp only [wtAll]; omega
    · have := wtAll_mem h
      simp only [wtAll]; omega
/-- ints up to B, at most n deep -/
def Sz (B : Nat) : Nat → PyData → Prop
  | _, .none => True
  | _, .bool _ => True
  | _, .int i => i.natAbs ≤ B
  | _, .str x => True
  | n + 1, .list ds => ∀ d ∈ ds, Sz B n d
  | n + 1, .tuple ds => ∀ d ∈ ds, Sz B n d
  | n + 1, .dict [] => True
  | _, _ => False
theorem Sz.mono {B C : Nat} (hB : B ≤ C) : ∀ {n m : Nat} {d : PyData}, n ≤ m → Sz B n d → Sz C m d
  | n, m, .none, _, _ => by cases m <;> exact trivial
  | n, m, .bool _, _, _ => by cases m <;> exact trivial
  | n, m, .int i, _, h => by
    have h' : i.natAbs ≤ B := by cases n <;> exact h
    have : i.natAbs ≤ C := Nat.le_trans h' hB
    cases m <;> exact this
  | n, m, .str x, _, h => by cases m <;> exact trivial
  | 0, m, .list ds, _, h => h.elim
  | 0, m, .tuple ds, _, h => h.elim
  | 0, m, .dict [], _, h => h.elim
  | 0, m, .dict (_ :: _), _, h => h.elim
  | n + 1, m + 1, .list ds, hm, h => fun d hd => Sz.mono hB (by omega) (h d hd)
  | n + 1, m + 1, .tuple ds, hm, h => fun d hd => Sz.mono hB (by omega) (h d hd)
  | n + 1, m + 1, .dict [], _, h => trivial
  | n + 1, m + 1, .dict (_ :: _), _, h => h.elim
  | n + 1, 0, _, hm, _ => absurd hm (by omega)
theorem Sz.int {B : Nat} {n : Nat} {i : Int} (h : i.natAbs ≤ B) : Sz B n (.int i) := by cases n <;> exact h
theorem Sz.bool {B : Nat} {n : Nat} (b : Bool) : Sz B n (.bool b) := by cases n <;> exact trivial
theorem Sz.none {B : Nat} {n : Nat} : Sz B n .none := by cases n <;> exact trivial
theorem Sz.str {B : Nat} {n : Nat} {x : Str} : Sz B n (.str x) := by cases n <;> exact trivial
theorem sz_depthAll {B n : Nat} (ih : ∀ d, Sz B n d → d.depth ≤ n) : ∀ ds : List PyData, (∀ d ∈ ds, Sz B n d) → PyData.depthAll ds ≤ n
  | [], _ => by simp [PyData.depthAll]
  | d :: ds, h => by
    have h1 := ih d (h d List.mem_cons_self)
    have h2 := sz_depthAll ih ds fun e he => h e (List.mem_cons_of_mem _ he)
    simp only [PyData.depthAll]
    omega
theorem Sz.depth {B : Nat} : ∀ {n : Nat} (d : PyData), Sz B n d → d.depth ≤ n
  | n, .none, _ => by simp [PyData.depth]
  | n, .bool _, _ => by simp [PyData.depth]
  | n, .int _, _ => by simp [PyData.depth]
  | n, .str _, _ => by simp [PyData.depth]
  | 0, .list ds, h => h.elim
  | 0, .tuple ds, h => h.elim
  | 0, .dict [], h => h.elim
  | 0, .dict (_ :: _), h => h.elim
  | n + 1, .list ds, h => by
    have := sz_depthAll (fun d => Sz.depth d) ds h
    simp only [PyData.depth]
    omega
  | n + 1, .tuple ds, h => by
    have := sz_depthAll (fun d => Sz.depth d) ds h
    simp only [PyData.depth]
    omega
  | n + 1, .dict [], _ => Nat.le_trans (by decide +kernel : PyData.depth (.dict []) ≤ 1) (by omega)
  | n + 1, .dict (_ :: _), h => h.elim
/-! ### a tuple that is not empty -/
end Ml
namespace Ml
open PySem PySem.Spec PyProof.Rows L2
/-! ### written values: laid anew, at addresses that were free in H0 -/
mutual
inductive Fw (H0 H : Hp) : V → PyData → Prop
  | non : Fw H0 H .non .none
  | bl (b : Bool) : Fw H0 H (.bl b) (.bool b)
  | int (i : Int) : Fw H0 H (.int i) (.int i)
  | str (x : Str) : Fw H0 H (.str x) (.str x)
  | tup {a : Addr} {xs : List V} {ds : List PyData} : H a = some (.tup xs) → H0 a = none → FwAll H0 H xs ds → Fw H0 H (.ref a) (.tuple ds)
  | lst {a : Addr} {xs : List V} {ds : List PyData} : H a = some (.lst xs) → H0 a = none → a ≠ sysModules → FwAll H0 H xs ds → Fw H0 H (.ref a) (.list ds)
  | dct {a : Addr} : H a = some (.dK []) → H0 a = none → Fw H0 H (.ref a) (.dict [])
inductive FwAll (H0 H : Hp) : List V → List PyData → Prop
  | nil : FwAll H0 H [] []
  | cons {v : V} {vs : List V} {d : PyData} {ds : List PyData} : Fw H0 H v d → FwAll H0 H vs ds → FwAll H0 H (v :: vs) (d :: ds)
end
theorem FwAll.len {H0 H : Hp} : ∀ {ds : List PyData} {vs : List V}, FwAll H0 H vs ds → vs.length = ds.length
  | _, _, .nil => rfl
  | _, _, .cons _ b => by rw [List.length_cons, List.length_cons, b.len]
theorem FwAll.at {H0 H : Hp} : ∀ {ds : List PyData} {vs : List V}, FwAll H0 H vs ds → ∀ {i : Nat} {v : V}, vs[i]? = some v → ∃ d, ds[i]? = some d ∧ Fw H0 H v d
  | _, _, .nil, i, v, e => by simp at e
  | _, _, .cons a b, 0, v, e => by cases Option.some.inj e; exact ⟨_, rfl, a⟩
  | _, _, .cons a b, i + 1, v, e => FwAll.at b (i := i) (by simpa using e)
theorem FwAll.append {H0 H : Hp} : ∀ {ds es : List PyData} {vs us : List V}, FwAll H0 H vs ds → FwAll H0 H us es → FwAll H0 H (vs ++ us) (ds ++ es)
  | _, _, _, _, .nil, h => h
  | _, _, _, _, .cons a b, h => .cons a (FwAll.append b h)
/-! ### the readings of written values -/
/-! ### written values, part by part: only the value is in the reading -/
mutual
theorem Fw.da {K : PySem.W.Frag} {ok : Addr → Prop} {H0 H : Hp} (hok : ∀ a, H0 a = none → ok a) : ∀ {d : PyData} {v : V}, Fw H0 H v d → Da K ok H v d
  | _, _, .non => .non
  | _, _, .bl b => .bl b
  | _, _, .int i => .int i
  | _, _, .str x => .str x
  | _, _, .tup h n g => .tup (SqT.of h) (FwAll.da hok g)
  | _, _, .lst h n m g => .lst h (hok _ n) m (FwAll.da hok g)
  | _, _, .dct h n => .dct h (hok _ n)
theorem FwAll.da {K : PySem.W.Frag} {ok : Addr → Prop} {H0 H : Hp} (hok : ∀ a, H0 a = none → ok a) : ∀ {ds : List PyData} {vs : List V}, FwAll H0 H vs ds → DaAll K ok H vs ds
  | _, _, .nil => .nil
  | _, _, .cons a b => .cons (Fw.da hok a) (FwAll.da hok b)
end
end Ml
namespace Ml
open PySem PySem.Spec PyProof.Rows L2
/-! ### values of any kind: what laws that draw them share -/
def okA (d r : Addr) : Addr → Prop := fun a => a ≠ d ∧ a ≠ r
theorem nx_mk {T : L2.St → Hp → Prop} {rt : VK} {bk ct : L2.St → Hp → Prop} {σ : L2.St} {H : Hp} (h : T σ H) : Ends.nx { nx := T, rt := rt, bk := bk, ct := ct } σ H := h
theorem seq_share {A B : TS} {D : Ends} {σ : L2.St} {H : Hp} (F : L2.St → Hp → Prop) (k : ∀ σ' H', F σ' H' → B D σ' H') (main : (∀ σ' H', F σ' H' → B D σ' H') → A { D with nx := B D } σ H) : tSeq A B D σ H := main k
def isT : PyData → Bool
  | .tuple _ => true
  | _ => false
def isI : PyData → Bool
  | .int _ => true
  | .bool _ => true
  | _ => false
def isB : PyData → Bool
  | .bool _ => true
  | _ => false
theorem kt_tup (d : PyData) : kitB (tyN d) "tuple" = some (isT d) := by cases d <;> exact kit_tup _
theorem kt_int (d : PyData) : kitB (tyN d) "int" = some (isI d) := by cases d <;> exact kit_int _
theorem kt_bool (d : PyData) : kitB (tyN d) "bool" = some (isB d) := by cases d <;> exact kit_bool _
theorem isT_yes {x : PyData} (h : isT x = true) : ∃ ds, x = .tuple ds := by
  cases x <;> first | exact ⟨_, rfl⟩ | cases h
theorem isI_yes : ∀ {x : PyData}, isI x = true → isB x = false → ∃ i, x = .int i
  | .int i, _, _ => ⟨i, rfl⟩
  | .bool _, _, g => by simp [isB] at g
  | .none, h, _ => by simp [isI] at h
  | .str _, h, _ => by simp [isI] at h
  | .list _, h, _ => by simp [isI] at h
  | .tuple _, h, _ => by simp [isI] at h
  | .dict _, h, _ => by simp [isI] at h
/-! ### repr of a value, whatever is known of its places -/
/-! ### faults of values -/
def isLv : PyData → Bool
  | .int i => decide (1 ≤ i) && decide (i ≤ 1000000000000)
  | _ => false
def badAt : List PyData → Nat → Option Nat
  | [], _ => none
  | d :: ds, i => if isLv d = true then badAt ds (i + 1) else some i
def rowF (k : Nat) : PyData → PyData
  | .tuple ds => if ds.length = k then (match badAt ds 0 with | none => .none | some j => .tuple [.tuple [.int (k : Int), .int (j : Int)], .str "level"]) else .tuple [.tuple [.int (k : Int)], .str "row"]
  | _ => .tuple [.tuple [.int (k : Int)], .str "row"]
def rowsF : List PyData → Nat → PyData
  | [], _ => .none
  | x :: xs, k => match rowF k x with | .none => rowsF xs (k + 1) | y => y
def faultD : PyData → PyData
  | .tuple ds => if 1 ≤ ds.length ∧ ds.length ≤ 12 then rowsF ds 0 else .tuple [.tuple [], .str "table"]
  | _ => .tuple [.tuple [], .str "table"]
theorem badAt_cons (d : PyData) (ds : List PyData) (i : Nat) : badAt (d :: ds) i = if isLv d = true then badAt ds (i + 1) else some i := rfl
theorem rowsF_cons (x : PyData) (xs : List PyData) (k : Nat) : rowsF (x :: xs) k = match rowF k x with | .none => rowsF xs (k + 1) | y => y := rfl
theorem drop_at {α : Type} {ds : List α} {i : Nat} {d : α} (h : ds[i]? = some d) : ds.drop i = d :: ds.drop (i + 1) := by
  obtain ⟨hi, e⟩ := List.getElem?_eq_some_iff.mp h
  rw [← e, List.getElem_cons_drop]
theorem rowF_cases (k : Nat) (x : PyData) : rowF k x = .none ∨ ∃ (ps : List Int) (s : Str), rowF k x = .tuple [.tuple (ps.map PyData.int), .str s] ∧ ps.length ≤ 2 := by
  cases x with
  | tuple ds =>
    show (if ds.length = k then _ else _) = _ ∨ _
    by_cases h : ds.length = k
    · cases hb : badAt ds 0 with
      | none => exact .inl (by rw [if_pos h])
      | some j => exact .inr ⟨[(k : Int), (j : Int)], "level", by show (if ds.length = k then (match badAt ds 0 with | none => PyData.none | some j => .tuple [.tuple [.int (k : Int), .int (j : Int)], .str "level"]) else _) = _; rw [if_pos h, hb]; rfl, Nat.le_refl 2⟩
    · exact .inr ⟨[(k : Int)], "row", by show (if ds.length = k then _ else _) = _; rw [if_neg h]; rfl, Nat.le_succ 1⟩
  | _ => exact .inr ⟨[(k : Int)], "row", rfl, Nat.le_succ 1⟩
theorem isLv_int {x : PyData} (h : (isI x && !isB x) = false) : isLv x = false := by
  cases x <;> first | rfl | (simp [isI, isB] at h)
/-! ### readings that yield values of any kind -/
def GV (K : PySem.W.Frag) (d r : Addr) (B k W : Nat) (H : Hp) (v : V) : Prop := ∃ x, Da K (okA d r) H v x ∧ Sz B k x ∧ wt x ≤ W
/-- a tuple: its parts, how large they are -/
def GT (K : PySem.W.Frag) (d r : Addr) (B k W m : Nat) (H : Hp) (v : V) : Prop := ∃ a xs ds, v = .ref a ∧ SqT K H a xs ∧ DaAll K (okA d r) H xs ds ∧ (∀ y ∈ ds, Sz B k y) ∧ wtAll ds ≤ W ∧ ds.length ≤ m
section
variable {K : PySem.W.Frag} {d c r : Addr} {B k W m B' k' W' m' : Nat} {H H' : Hp} {v : V} {n : Nat}
theorem GV.same (h : GV K d r B k W H v) (e : Sm H H') : GV K d r B k W H' v := by
  obtain ⟨x, a, b, w⟩ := h
  exact ⟨x, a.same e, b, w⟩
theorem GV.kp (D : Dr H d c r n) (e : Kp d r H H') (h : GV K d r B k W H v) : GV K d r B k W H' v := by
  obtain ⟨x, a, b, z⟩ := h
  exact ⟨x, a.kp (fun _ h => h) D e, b, z⟩
theorem GV.mono (h : GV K d r B k W H v) (hB : B ≤ B') (hk : k ≤ k') (hW : W ≤ W') : GV K d r B' k' W' H v := by
  obtain ⟨x, a, b, z⟩ := h
  exact ⟨x, a, b.mono hB hk, by omega⟩
theorem GT.same (h : GT K d r B k W m H v) (e : Sm H H') : GT K d r B k W m H' v := by
  obtain ⟨a, xs, ds, h1, h2, h3, h4⟩ := h
  exact ⟨a, xs, ds, h1, e.sqT h2, h3.same e, h4⟩
theorem GT.kp (D : Dr H d c r n) (e : Kp d r H H') (h : GT K d r B k W m H v) : GT K d r B k W m H' v := by
  obtain ⟨a, xs, ds, h1, h2, h3, h4⟩ := h
  exact ⟨a, xs, ds, h1, D.kpT e h2, h3.kp (fun _ h => h) D e, h4⟩
theorem GT.mono (h : GT K d r B k W m H v) (hB : B ≤ B') (hk : k ≤ k') (hW : W ≤ W') (hm : m ≤ m') : GT K d r B' k' W' m' H v := by
  obtain ⟨a, xs, ds, h1, h2, h3, h4, h5, h6⟩ := h
  exact ⟨a, xs, ds, h1, h2, h3, fun y hy => (h4 y hy).mono hB hk, by omega, by omega⟩
end
/-- what stays good whatever is drawn and laid anew -/
def Sta (d c r : Addr) (G : Hp → V → Prop) : Prop := ∀ n H H' v, Dr H d c r n → Kp d r H H' → G H v → G H' v
/-- a reading that yields a good value and draws at most k times -/
def GE (d c r : Addr) (J : L2.St → Hp → Prop) (L k : Nat) (G : Hp → V → Prop) (te : TE) : Prop :=
  ∀ n σ H (Q : VK), n + k ≤ L → Dr H d c r n → J σ H → (∀ v H', Kp d r H H' → Dr H' d c r (n + k) → J σ H' → G H' v → Q v H') → te σ H Q
def GA (d c r : Addr) (J : L2.St → Hp → Prop) (L k m : Nat) (G : Hp → V → Prop) (ta : TA) : Prop :=
  ∀ n σ H (Q : List V → Hp → Prop), n + k ≤ L → Dr H d c r n → J σ H → (∀ vs H', Kp d r H H' → Dr H' d c r (n + k) → J σ H' → vs.length = m → (∀ v ∈ vs, G H' v) → Q vs H') → ta σ H Q
/-- a list that is none of the drawing's, of good values -/
structure LV (d r : Addr) (G : Hp → V → Prop) (H : Hp) (l : Addr) (xs : List V) : Prop where
  at_ : H l = some (.lst xs)
  nd : l ≠ d
  nr : l ≠ r
  good : ∀ v ∈ xs, G H v
section
variable {K : PySem.W.Frag} {d c r : Addr} {J : L2.St → Hp → Prop} {L B k W m : Nat} {G : Hp → V → Prop}
theorem LV.kp (hG : Sta d c r G) {n : Nat} {H H' : Hp} {l : Addr} {xs : List V} (h : LV d r G H l xs) (D : Dr H d c r n) (e : Kp d r H H') : LV d r G H' l xs := ⟨e _ _ h.at_ h.nd h.nr, h.nd, h.nr, fun v hv => hG _ _ _ _ D e (h.good v hv)⟩
theorem GE.mono {G' : Hp → V → Prop} {te : TE} {k' : Nat} (h : GE d c r J L k G te) (hk : k ≤ k') (g : ∀ H v, G H v → G' H v) : GE d c r J L k' G' te := fun n σ H Q hn D hJ q => h n σ H Q (by omega) D hJ fun v H' a b e f => q v H' a (b.mono (by omega)) e (g _ _ f)
end
/-! ### the same as statements -/
/-! ### the readings, one by one -/
section
variable {K : PySem.W.Frag} {d c r : Addr} {J : L2.St → Hp → Prop} {L B k W m B' k' W' m' k1 k2 W1 W2 m1 m2 : Nat} {G : Hp → V → Prop} {te te' : TE} {ta : TA} {tl th : TO}
/-- a slice's part -/
def GO (d c r : Addr) (J : L2.St → Hp → Prop) (tl : TO) : Prop := ∀ n σ H Q, Dr H d c r n → J σ H → (∀ l, Q l H) → tl σ H Q
/-- an int between 1 and N -/
def GI (d c r : Addr) (J : L2.St → Hp → Prop) (N : Nat) (te : TE) : Prop := ∀ n σ H (Q : VK), Dr H d c r n → J σ H → (∀ i : Int, 1 ≤ i → i ≤ N → Q (.int i) H) → te σ H Q
end
mutual
theorem Da.okm {K : PySem.W.Frag} {ok ok' : Addr → Prop} {H : Hp} (e : ∀ a, ok a → ok' a) : ∀ {d : PyData} {v : V}, Da K ok H v d → Da K ok' H v d
  | _, _, .non => .non
  | _, _, .bl b => .bl b
  | _, _, .int i => .int i
  | _, _, .str x => .str x
  | _, _, .lst h o n g => .lst h (e _ o) n (DaAll.okm e g)
  | _, _, .tup h g => .tup h (DaAll.okm e g)
  | _, _, .dct h o => .dct h (e _ o)
theorem DaAll.okm {K : PySem.W.Frag} {ok ok' : Addr → Prop} {H : Hp} (e : ∀ a, ok a → ok' a) : ∀ {ds : List PyData} {vs : List V}, DaAll K ok H vs ds → DaAll K ok' H vs ds
  | _, _, .nil => .nil
  | _, _, .cons a b => .cons (Da.okm e a) (DaAll.okm e b)
end
def allOk : Addr → Prop := fun _ => True
theorem Da.all {K : PySem.W.Frag} {ok : Addr → Prop} {H : Hp} {d : PyData} {v : V} (h : Da K ok H v d) : Da K allOk H v d := h.okm fun _ _ => trivial
/-- lists that were there in H0 -/
def okH (ok : Addr → Prop) (H0 : Hp) : Addr → Prop := fun a => ok a ∧ H0 a ≠ none
theorem Da.weak {K : PySem.W.Frag} {ok : Addr → Prop} {H0 H : Hp} {d : PyData} {v : V} (h : Da K (okH ok H0) H v d) : Da K ok H v d := h.okm fun _ z => z.1
theorem DaAll.weak {K : PySem.W.Frag} {ok : Addr → Prop} {H0 H : Hp} {d : List PyData} {v : List V} (h : DaAll K (okH ok H0) H v d) : DaAll K ok H v d := h.okm fun _ z => z.1
theorem DaAll.snoc {K : PySem.W.Frag} {ok : Addr → Prop} {H : Hp} {vs : List V} {ds : List PyData} {v : V} {d : PyData} (h : DaAll K ok H vs ds) (g : Da K ok H v d) : DaAll K ok H (vs ++ [v]) (ds ++ [d]) := h.append (.one g)
theorem lt_line {n : Nat} (h : n ≤ 1000000) : n < sizeLine := by rw [sizeLine_eq]; omega
/-- t[-1] of a tuple that is not empty -/
theorem atI_lastN {xs : List V} {m : Nat} {v : V} (h : xs.length = m + 1) (e : xs[m]? = some v) : atI xs (-1) = some v := by
  have e2 : ixN xs.length (-1) = some m := by
    rw [h]
    unfold ixN
    rw [if_neg (by omega), if_pos (by omega)]
    congr 1
    omega
  unfold atI
  rw [e2]
  exact e
theorem GT.last {K : PySem.W.Frag} {d r : Addr} {B k W : Nat} {H : Hp} {xs : List V} {ds : List PyData} (h2 : DaAll K (okA d r) H xs ds) (h3 : ∀ y ∈ ds, Sz B k y) (h4 : wtAll ds ≤ W) {i : Nat} {v : V} (hv : xs[i]? = some v) : GV K d r B k W H v := by
  obtain ⟨x, hx, dx⟩ := h2.at hv
  have hm := List.mem_of_getElem? hx
  have := wtAll_mem hm
  exact ⟨x, dx, h3 x hm, by omega⟩
/-! ### a list that is not empty -/
def rNeNilL (K : PySem.W.Frag) : R2 := fun x y H Q => ∃ a b xs, x = .ref a ∧ y = .ref b ∧ SqL K H a xs ∧ SqL K H b [] ∧ Q (.bl (!decide (xs = []))) H
theorem plain_isl {h : Heap} {a : Addr} {its : Array Value} (p : PlainL h a its) : h.IsList a its := by
  obtain ⟨o, n, h1, h2, _, h3⟩ := p
  exact ⟨o, h1, h2, n, h3⟩
theorem op_neNilL {X : Cx} (hu : X.A.units + 64 < cLine) : OpR X (compareOp .NotEq) (rNeNilL X.K) := by
  intro pins s σ H x y v u Q I r1 r2 h
  obtain ⟨a, b, xs, rfl, rfl, h1, h2, q⟩ := h
  cases r1
  cases r2
  obtain ⟨its, ri, pi, _⟩ := I.list h1
  obtain ⟨its2, ri2, pi2, _⟩ := I.list h2
  cases ri2
  have hl := ri.length
  cases xs with
  | nil =>
    cases ri
    refine SeqAt.RcNeAt.lists (e := fun _ => true) (plain_isl pi) (plain_isl pi2) rfl (by omega) (fun j _ h2 => absurd h2 (by simp)) X.prog X.w _ _ ?_
    exact ⟨.bl false, H, I, rfl, q⟩
  | cons x l =>
    cases ri with
    | cons r1 r2 =>
      refine SeqAt.RcNeAt.lists_lengths (plain_isl pi) (plain_isl pi2) (by simp) (by omega) X.prog X.w _ _ ?_
      exact ⟨.bl true, H, I, rfl, q⟩
end Ml
namespace Ml
open PySem PySem.Spec PyProof.Rows L2
/-! ### data without lists; comprehensions that draw -/
def noL : Addr → Prop := fun _ => False
section
variable {K : PySem.W.Frag} {d c r D : Addr} {H H' H1 Hy H4 : Hp}
theorem DaAll.nst {ys zs : List V} {ds : List PyData} {vs : List V} (h : DaAll K Ml.noL H vs ds) (hl : H D = some (.lst ys)) : DaAll K Ml.noL (upd H D (.lst zs)) vs ds :=
  h.to (fun a o e z => z.elim) fun a xs e => sqT_upd hl e
theorem Da.nst {ys zs : List V} {ds : PyData} {vs : V} (h : Da K Ml.noL H vs ds) (hl : H D = some (.lst ys)) : Da K Ml.noL (upd H D (.lst zs)) vs ds :=
  h.to (fun a o e z => z.elim) fun a xs e => sqT_upd hl e
theorem DaAll.nkp {n : Nat} {ds : List PyData} {vs : List V} (h : DaAll K Ml.noL H vs ds) (g : Dr H d c r n) (e : Kp d r H H') : DaAll K Ml.noL H' vs ds := h.kp (fun _ z => z.elim) g e
/-- what a comprehension over j items has collected at D; it drew k times for each -/
structure CP (K : PySem.W.Frag) (d c r : Addr) (H1 : Hp) (D : Addr) (n k : Nat) (Pd : Nat → PyData → Prop) (j : Nat) (Hy : Hp) : Prop where
  ex : ∃ ms ds, Hy D = some (.lst ms) ∧ DaAll K Ml.noL Hy ms ds ∧ ds.length = j ∧ ∀ i y, ds[i]? = some y → Pd i y
  dr : Dr Hy d c r (n + k * j)
  kp : Kp d r H1 Hy
variable {n k : Nat} {Pd : Nat → PyData → Prop} {j : Nat}
theorem CP.init (g : Dr H1 d c r n) (hD : H1 D = none) : CP K d c r H1 D n k Pd 0 (upd H1 D (.lst [])) :=
  ⟨⟨[], [], upd_same, .nil, rfl, fun i y h => by simp at h⟩, g.new hD, Kp.new hD⟩
theorem CP.step (h : CP K d c r H1 D n k Pd j Hy) (g1 : Dr H1 d c r n) (hD : H1 D = none) (hj : j ≤ 1000) {y : V} {u : PyData} (e : Kp d r Hy H4) (g : Dr H4 d c r (n + k * j + k)) (a : Da K Ml.noL H4 y u) (p : Pd j u) :
    ∃ acc, H4 D = some (.lst acc) ∧ acc.length < sizeLine ∧ CP K d c r H1 D n k Pd (j + 1) (upd H4 D (.lst (acc ++ [y]))) := by
  obtain ⟨ms, ds, h1, h2, h3, h4⟩ := h.ex
  have nD := g1.ne hD
  have h1' := e _ _ h1 nD.1 nD.2.2
  have hl := h2.len
  refine ⟨ms, h1', lt_line (by omega), ⟨⟨ms ++ [y], ds ++ [u], upd_same, ((h2.nkp h.dr e).append (.one a)).nst h1', by rw [List.length_append, h3]; rfl, fun i z hz => ?_⟩, ?_, fun b o q q1 q2 => ?_⟩⟩
  · by_cases hi : i < ds.length
    · rw [List.getElem?_append_left hi] at hz
      exact h4 i z hz
    · rw [List.getElem?_append_right (by omega)] at hz
      cases e2 : i - ds.length with
      | zero =>
        rw [e2] at hz
        cases Option.some.inj hz
        obtain rfl : i = j := by omega
        exact p
      | succ q => rw [e2] at hz; simp at hz
  · rw [Nat.mul_succ, ← Nat.add_assoc]
    exact g.upd nD.1 nD.2.1 nD.2.2
  · rw [upd_ne (ne_of_none q hD)]
    exact e b o (h.kp b o q q1 q2) q1 q2
/-- tuple(..) of it -/
theorem CP.tuple (h : CP K d c r H1 D n k Pd j Hy) {Q : VK} (q : ∀ (p : Addr) (ds : List PyData) (H' : Hp), Da K Ml.noL H' (.ref p) (.tuple ds) → ds.length = j → (∀ i y, ds[i]? = some y → Pd i y) → Dr H' d c r (n + k * j) → Kp d r H1 H' → Q (.ref p) H') :
    ∃ p ys, ([V.ref D] : List V) = [.ref p] ∧ ((SqL K Hy p ys ∧ ∀ l, Hy l = none → Q (.ref l) (upd Hy l (.tup ys))) ∨ (SqT K Hy p ys ∧ Q (.ref p) Hy)) := by
  obtain ⟨ms, ds, h1, h2, h3, h4⟩ := h.ex
  refine ⟨D, ms, rfl, .inl ⟨SqL.of h1, fun l hl => ?_⟩⟩
  have s := Sm.new (o := .tup ms) hl
  exact q l ds _ (.tup (SqT.of upd_same) (h2.same s)) h3 h4 (h.dr.same s) (h.kp.trans s.kp)
end
end Ml
namespace Ml
open PySem PySem.Spec PyProof.Rows L2
/-- a set that has just been made -/
abbrev emptyS (w : World) : Obj := { cls := .type "set", dict := none, data := .set #[] 0 (.fresh 0 0 (!w.params.followText "set-order")) }
section
variable {P : Program} {w : World} {A : Around} {E : Value → Shared → Prop} {s : Shared}
set_option maxHeartbeats 6400000 in
/-- set(l) of a list of ints -/
theorem set_of_list {l : Addr} {vals : Array Value} (zs : List Int) {Q : Value → Shared → Prop} (calm : A.handled = none) (isl : s.heap.IsList l vals) (are : IntsAre vals.toList zs) (few : zs.length + 1 < scanBound)
    (fin : ∀ (g : Heap) (tk c : Nat), SetR w g s.heap.objs.size (fun j => decide (j ∈ zs)) c → c ≤ zs.length → (∀ b o, s.heap.get? b = some o → g.get? b = some o) → Q (.ref s.heap.objs.size) { s with heap := g, toks := tk }) :
    wpAny (model P w) A (call (.type "set") [.ref l]) Q E s := by
  have size : vals.size = zs.length := by
    have e := IntsAre.length are
    rwa [Array.length_toList] at e
  obtain ⟨_, _, mro⟩ := F.called_set.mro
  have made := F.called_set.made
  have subs := F.called_set.sub
  refine wpAny_call (codeAny_of_tree ?_)
  show wpAny _ _ (callAny (.type "set") _) _ _ _
  refine wpAny_pure ⟨Code.quiet_builtin _ (by decide +kernel), codeAny_builtin F.entry_type_call ?_⟩
  rw [Around.under_plain (weight_type_call_type "set" [.ref l] []) rfl]
  have a1 := F.called_set.notType
  have a2 := F.called_set.canCreate
  have a3 := F.typeCall_set_1 (.ref l)
  repeat (any_goals (first | assumption | wp_step))
  refine codeAny_mono (code_set_led1 (.ref l) (E := E) (Q₁ := fun v z => v = .ref s.heap.objs.size ∧ z = { s with heap := s.heap.push (emptyS w) }) ⟨rfl, rfl⟩) fun res z hz => ?_
  cases res with
  | error e => exact hz
  | ok fl =>
    cases fl with
    | ret obj =>
      obtain ⟨rfl, rfl⟩ := hz
      have there : (s.heap.push (emptyS w)).get? s.heap.objs.size = some (emptyS w) := Heap.get?_push_size _ rfl
      have typ : Shared.TypeIs { s with heap := s.heap.push (emptyS w) } (.ref s.heap.objs.size) "set" := ⟨_, there, rfl⟩
      have b1 := F.called_set.init.lookup
      have b2 := F.called_set.init.bind (.ref s.heap.objs.size)
      repeat (any_goals (first | assumption | wp_step))
      refine codeAny_mono (codeAny_call_builtin (R := wants (fun u z => u = .none ∧ ∃ g tk c, z = { s with heap := g, toks := tk } ∧ SetR w g s.heap.objs.size (fun j => decide (j ∈ zs)) c ∧ c ≤ zs.length ∧
          (∀ b o, s.heap.get? b = some o → g.get? b = some o)) E) F.called_set.init.plain F.entry_set_init (check_set_init_1 typ ?_)) fun res2 z2 hz2 => ?_
      · obtain ⟨⟨ocl, odi, oda, osl⟩, hol, hcl, nl, hda⟩ := isl
        simp only at hcl hda
        subst hcl hda
        have hol1 : (s.heap.push (emptyS w)).get? l = some { cls := .type "list", dict := odi, data := .seq vals nl, slots := osl } := Heap.get?_push_of_some _ hol
        have c1 := F.sub_list_set
        have c2 := F.sub_list_frozenset
        have c3 : (Value.type "list" == Value.type "dict") = false := by decide
        have isl1 : (s.heap.push (emptyS w)).IsList l vals := ⟨_, hol1, rfl, nl, rfl⟩
        unfold Builtin.«set.__init__» noKeywords Builtin.Frozenset.updateFrom
        generalize hPI : pyIter = PI
        wp_walk
        subst hPI
        refine wpAny_pyIter_list isl1 ?_
        refine wpAny_bind (wpAny_runValue ?_)
        have lo : l < s.heap.objs.size := Heap.lt_size hol
        have calm3 : A.in1.in1.in1.handled = none := by simp [calm]
        have n1 : l ≠ (s.heap.push (emptyS w)).objs.size := by
          rw [Heap.size_push]
          exact Nat.ne_of_lt (Nat.lt_of_lt_of_le lo (Nat.le_succ _))
        have n2 : s.heap.objs.size ∉ [(s.heap.push (emptyS w)).objs.size, l] := by
          rw [Heap.size_push]
          simp only [List.mem_cons, List.not_mem_nil, or_false, not_or]
          exact ⟨Nat.ne_of_lt (Nat.lt_succ_self _), fun e => Nat.lt_irrefl _ (e ▸ lo)⟩
        have vat : ∀ (i : Nat) (v : Value), vals[i]? = some v → ∃ k t, zs[i]? = some k ∧ v = .int k t := fun i v hv => by
          have hi : i < zs.length := by rw [← size]; exact (Array.getElem?_eq_some_iff.mp hv).1
          obtain ⟨t, e⟩ := PyProof.Rows.IntsAre.int_at are i v (by rw [Array.getElem?_toList]; exact hv)
          refine ⟨zs[i], t, List.getElem?_eq_getElem hi, ?_⟩
          rw [e, List.getD_eq_getElem?_getD, List.getElem?_eq_getElem hi] <;> rfl
        refine set_update_ints ((Walks.list calm3 _ l n1 vals).toS) s.heap.objs.size n2 zs size few vat (vals.size - 0) 0 _ (by omega) (Nat.zero_le _)
          ⟨⟨_, Heap.get?_push_size _ rfl, rfl, rfl⟩, isl1.push _⟩ ⟨0, Nat.le_refl 0, setR_new_at (Heap.get?_push_of_some _ there)⟩ ?_
        rintro ⟨g, ge, dr, tk, os⟩ c mv hc hS
        have e1 : ge = s.gens := mv.gens
        have e2 : dr = s.drawn := mv.drawn
        have e3 : os = s.os := mv.os
        subst e1 e2 e3
        show wpAny _ _ _ _ _ _
        refine wpAny_pure ?_
        show wpAny _ _ (ret Value.none) _ _ _
        rw [size] at hc
        refine wpAny_pure ⟨rfl, g, tk, c, rfl, hS, hc, fun b o e => ?_⟩
        have lb : b < s.heap.objs.size := Heap.lt_size e
        refine mv.heap b o ?_ (Heap.get?_push_of_some _ (Heap.get?_push_of_some _ e))
        rw [Heap.size_push]
        simp only [List.mem_cons, List.not_mem_nil, or_false, not_or]
        exact ⟨fun e => Nat.lt_irrefl _ (e ▸ lb), fun e => Nat.lt_irrefl _ (Nat.lt_trans lb (e ▸ Nat.lt_succ_self _))⟩
      · cases res2 with
        | error e => exact hz2
        | ok fl2 =>
          cases fl2 with
          | ret u =>
            obtain ⟨rfl, g, tk, c, rfl, hS, hc, keep⟩ := hz2
            repeat (any_goals (first | assumption | wp_step))
            exact fin _ _ _ hS hc keep
          | _ => exact hz2.elim
    | _ => exact hz.elim
end
section
variable {X : Cx}
def rSetL1 (K : PySem.W.Frag) (w : World) : List V → Hp → VK → Prop := fun vs H Q => ∃ (a : Addr) (zs : List Int), vs = [V.ref a] ∧ SqL K H a (zs.map V.int) ∧ zs.length ≤ 1000 ∧
  ∀ (p : Addr) (c : Nat), H p = none → c ≤ zs.length → Q (.ref p) (upd H p (SetO w p (fun j => decide (j ∈ zs)) c))
theorem cr_setL1 (hc : X.calm = true) : CallR X (.type "set") (rSetL1 X.K X.w) := by
  intro pins s σ H xs us Q I rxs h
  obtain ⟨a, zs, rfl, hs, few, q⟩ := h
  obtain ⟨u, rfl, ru⟩ := rxs.one
  cases ru
  obtain ⟨its, rv, ⟨o, n, ho, hcl, _, hd⟩, _⟩ := I.list hs
  refine set_of_list zs (I.ok.hd hc) ⟨o, ho, hcl, n, hd⟩ (ints_of_vals rv) (by unfold scanBound; omega) fun g tk c hS hc2 keep => ?_
  have free : H s.heap.objs.size = none := I.hok.fresh (Nat.le_refl _)
  exact ⟨.ref s.heap.objs.size, upd H s.heap.objs.size (SetO X.w s.heap.objs.size _ c), I.laid (t' := tk) keep (Nat.le_refl _) (setO_new hS), rfl, q _ c free hc2⟩
end
end Ml
/-! sorted of a set of ints of any size; a set of ints by two clauses without tests -/
namespace Ml
open PySem PySem.Spec PyProof.Rows L2
section
variable {P : Program} {w : World} {A : Around} {E : Value → Shared → Prop} {s : Shared} {a : Addr}
theorem sort_set {S : Int → Bool} {n : Nat} {Q : Value → Shared → Prop} (R : SetR w s.heap a S n) (calm : A.handled = none)
    (fin : ∀ z p (out : List Value) (c : Nat) (ns : List Int), (∀ b o, s.heap.get? b = some o → z.heap.get? b = some o) → z.gens = s.gens → z.os = s.os → s.heap.objs.size ≤ p →
      z.heap.get? p = some (seqObj "list" out.toArray c) → IntsAre out ns → ns.Pairwise (· < ·) → (∀ k, k ∈ ns ↔ S k = true) → ns.length = n → Q (.ref p) z) :
    wpAny (model P w) A (call (.builtin "sorted") [.ref a]) Q E s := by
  obtain ⟨o, es, ep, t, ho, ex, hd, good, nod, mem, few, fits, size, ris, led⟩ := R
  refine Calls.call_function_entry kind_sorted plain_sorted entry_sorted (args_sorted1 _) ?_
  unfold Builtin.«sorted»
  refine wpAny_bind (m := checkCount "sorted" 1 1 _) (wpAny_pure ?_)
  refine wpAny_bind (collect_set (A := A.in1) calm ⟨o, ho, ex.1, hd⟩ fits few ris led fun z1 vs keep le gens os perm => ?_)
  have lv : vs.length = n := by
    rw [perm.length_eq, List.length_map, Array.length_toList]
    exact size
  have isI : IntsAre vs (vs.map Builtin.Re.reRawOf) := ints_of vs fun v hv => by
    obtain ⟨e, he, q⟩ := List.mem_map.mp (perm.mem_iff.mp hv)
    obtain ⟨k, tk, h1, _⟩ := good e he
    exact ⟨k, tk, by rw [← q]; exact h1⟩
  have pk : (vs.map Builtin.Re.reRawOf).Perm (es.toList.map keyOf) := by
    have q := perm.map Builtin.Re.reRawOf
    rwa [List.map_map] at q
  have small : vs.length ≤ sizeLine := by
    rw [lv, sizeLine_eq, ← size]
    unfold scanBound at few
    omega
  refine wpAny_bind (wpAny_newList ?_ small)
  have there : (z1.heap.push (seqObj "list" vs.toArray 0)).get? z1.heap.objs.size = some (seqObj "list" vs.toArray 0) := Heap.get?_push_size _ rfl
  refine wpAny_bind (wpAny_holding (wpAny_call_entry slot_list_sort ⟨_, there, rfl⟩ entry_list_sort (SrtO.list_sort_ord SrtO.swo_int there small (fun h2 => SrtO.ints_sortable isI h2) fun out s1 s2 => ⟨_, rfl, ?_⟩) (args_list_sort _)))
  obtain ⟨k1, k2, k3⟩ := SrtO.ints_out isI s1 s2
  obtain ⟨c, hc⟩ := sortedHeap_at (vs := vs) (out := out.toArray) there
  have pn : (out.map SrtO.iv).Perm (es.toList.map keyOf) := k2.trans pk
  refine wpAny_pure ⟨_, rfl, fin _ z1.heap.objs.size out c (out.map SrtO.iv) (fun b u e => ?_) gens os le hc k1 (lt_of_le_nodup _ k3 (pn.nodup_iff.mpr nod)) (fun k => by rw [pn.mem_iff, ← mem k]) ?_⟩
  · have q := keep b u e
    have lt := Heap.lt_size q
    show (sortedHeap (z1.heap.push (seqObj "list" vs.toArray 0)) z1.heap.objs.size vs out.toArray).get? b = some u
    rw [sortedHeap_old (Nat.ne_of_lt lt) (by rw [size_push']; exact Nat.lt_succ_of_lt lt)]
    exact Heap.get?_push_of_some _ q
  · rw [pn.length_eq, List.length_map, Array.length_toList]
    exact size
end
section
variable {X : Cx}
def rSortS (w : World) : List V → Hp → VK → Prop := fun vs H Q => ∃ (a : Addr) (S : Int → Bool) (n : Nat), vs = [V.ref a] ∧ H a = some (SetO w a S n) ∧ n ≤ 2000 ∧
  ∀ (ns : List Int) (p : Addr), ns.Pairwise (· < ·) → (∀ k : Int, k ∈ ns ↔ S k = true) → ns.length = n → H p = none → Q (.ref p) (upd H p (.lst (ns.map V.int)))
theorem cr_sortS (hc : X.calm = true) : CallR X (.builtin "sorted") (rSortS X.w) := by
  intro pins s σ H vs us Q I rv h
  obtain ⟨a, S, n, rfl, ha, few, q⟩ := h
  rw [Vals.ref1 rv]
  refine sort_set (setO_get I ha) (I.ok.hd hc) fun z p out c ns keep gens os le hp are srt mem len => ?_
  have free : H p = none := I.hok.fresh le
  have short : (ns.map V.int).length ≤ sizeLine := by
    rw [List.length_map, len, sizeLine_eq]
    omega
  have J : Inv X pins σ (upd H p (.lst (ns.map V.int))) { s with heap := z.heap, gens := z.gens, drawn := z.drawn, toks := z.toks } :=
    I.call (ch := []) (Un.laid keep le free) (I.hok.laid keep le ⟨short, out, c, vals_of_ints are, hp⟩) (by rw [gens]; exact I.bare) (fun _ e => nomatch e)
  obtain ⟨zh, zg, zd, zt, zo⟩ := z
  have e : zo = s.os := os
  subst e
  exact ⟨.ref p, _, J, rfl, q ns p srt mem len free⟩
/-- one more int into a set -/
theorem put_int {pins : List (Addr × Obj)} {σ : L2.St} {H : Hp} {s : Shared} {E : Value → Shared → Prop} {D : Addr} {S : Int → Bool} {n : Nat} {y : Int} {t : Tok} {Q : Value → Shared → Prop} (I : Inv X pins σ H s) (hD : H D = some (SetO X.w D S n)) (room : n + 1 < scanBound)
    (h : ∀ z, Inv X pins σ (upd H D (SetO X.w D (fun j => S j || decide (j = y)) (if S y = true then n else n + 1))) z → Q .none z) : wpAny (model X.prog X.w) X.A (call (.builtin "set.add") [.ref D, .int y t]) Q E s := by
  refine setR_add (setO_get I hD) room fun g sb new => h _ (I.write (e := D) (t' := s.toks + 1) (by rw [hD]; trivial) (.inl rfl) (fun b u hb hu => (sb.2 b hb).trans hu) ?_ (setO_new new))
  obtain ⟨o, _, _, _, ho, _⟩ := new
  exact ⟨o, ho⟩
end
/-! ### the two clauses at the machine -/
abbrev sc2 (elt t0 i0 t1 i1 : Expr) (scope : Scope) (pos : Pos) : Expr := .SetComp elt [⟨t0, i0, [], 0⟩, ⟨t1, i1, [], 0⟩] scope pos
section
variable {prog : Program} {w : World} {A : Around} {R : Result → Shared → Prop} {s : Shared} {elt t0 i0 t1 i1 : Expr} {scope : Scope} {pos : Pos} {it acc : Value} {env : Env}
theorem sc2_outer : compTurn (sc2 elt t0 i0 t1 i1 scope pos) 0 it acc env = (do
      standAt i0.pos
      match ← pyNext it with
      | none => pure (.done .next)
      | some v =>
        letOwnedTupleGo t0 it v
        assign t0 env v
        let mut ok := true
        for c in ([] : List Expr) do
          if ok then ok ← isTrue c env (eval c env)
        if ok then
          let x ← eval i1 env
          standAt i1.pos
          let x ← foldedSetIterable i1 env x
          let _ ← runOwn (.compStart (sc2 elt t0 i0 t1 i1 scope pos) 1 (← holding [x] (pyIter x)) acc env) env
        again (.compLoop (sc2 elt t0 i0 t1 i1 scope pos) 0 it acc env)) := by rfl
theorem sc2_inner : compTurn (sc2 elt t0 i0 t1 i1 scope pos) 1 it acc env = (do
      standAt i1.pos
      match ← pyNext it with
      | none => pure (.done .next)
      | some v =>
        letOwnedTupleGo t1 it v
        assign t1 env v
        let mut ok := true
        for c in ([] : List Expr) do
          if ok then ok ← isTrue c env (eval c env)
        if ok then
          (do let v ← eval elt env; standAt elt.pos; let _ ← call (.builtin "set.add") [acc, v])
        again (.compLoop (sc2 elt t0 i0 t1 i1 scope pos) 1 it acc env)) := by rfl
abbrev Nb (prog : Program) (w : World) (A : Around) (env : Env) (R : Result → Shared → Prop) : Value → Shared → Prop := notedBy (model prog w) A env fun e s' => R (.error e) s'
theorem sc2_loop0 (plain : ∀ x, foldedSetIterable i1 env x = pure x) (I : Nat → Shared → Prop)
    (turn : ∀ n s, I n s → wpAny (model prog w) A (pyNext it) (fun r z => match r with
      | none => R (.ok .next) z
      | some v => wpAny (model prog w) A (letOwnedTupleGo t0 it v) (fun _ z => wpAny (model prog w) A (assign t0 env v) (fun _ z => wpAny (model prog w) A (eval i1 env) (fun x z => wpAny (model prog w) A (pyIter x) (fun it1 z =>
          codeAny (model prog w) A (.compStart (sc2 elt t0 i0 t1 i1 scope pos) 1 it1 acc env) (fun r z => match r with
            | .ok _ => ∃ m, m < n ∧ I m z
            | .error _ => False) z) (Nb prog w A env R) z) (Nb prog w A env R) z) (Nb prog w A env R) z) (Nb prog w A env R) z) (Nb prog w A env R) s)
    (n : Nat) (h : I n s) : codeAny (model prog w) A (.compLoop (sc2 elt t0 i0 t1 i1 scope pos) 0 it acc env) R s := by
  refine codeAny_loop rfl I (fun n s hI => ?_) n h
  show wpAny _ A ((compTurn (sc2 elt t0 i0 t1 i1 scope pos) 0 it acc env).onRaise (fun x => do noteFrame x env; theTreesLotGoes x)) _ _ s
  refine wpAny_noted ?_
  rw [sc2_outer]
  refine wpAny_bind (wpAny_standAt (wpAny_bind (wpAny_mono (turn n s hI) (fun r z hz => ?_) fun _ _ e => e)))
  cases r with
  | none => exact wpAny_pure hz
  | some v =>
    refine wpAny_bind (wpAny_mono hz (fun _ z hz => ?_) fun _ _ e => e)
    refine wpAny_bind (wpAny_mono hz (fun _ z hz => ?_) fun _ _ e => e)
    refine wpAny_bind (wpAny_tests_nil ?_)
    refine wpAny_bind (wpAny_mono hz (fun x z hz => ?_) fun _ _ e => e)
    refine wpAny_bind (wpAny_standAt (wpAny_bind (wpAny_of_eq (plain x) (wpAny_bind (wpAny_holding (wpAny_mono hz (fun it1 z hz => ?_) fun _ _ e => e))))))
    refine wpAny_bind (wpAny_runOwn ?_)
    rw [Around.mark_none]
    refine codeAny_mono hz fun r z hr => ?_
    cases r with
    | ok fl => first | exact wpAny_pure ⟨rfl, hr⟩ | exact wpAny_bind (wpAny_pure (wpAny_pure ⟨rfl, hr⟩))
    | error e => exact hr.elim
theorem sc2_loop1 (I : Nat → Shared → Prop)
    (turn : ∀ n s, I n s → wpAny (model prog w) A (pyNext it) (fun r z => match r with
      | none => R (.ok .next) z
      | some v => wpAny (model prog w) A (letOwnedTupleGo t1 it v) (fun _ z => wpAny (model prog w) A (assign t1 env v) (fun _ z => wpAny (model prog w) A (eval elt env) (fun x z =>
          wpAny (model prog w) A (call (.builtin "set.add") [acc, x]) (fun _ z => ∃ m, m < n ∧ I m z) (Nb prog w A env R) z) (Nb prog w A env R) z) (Nb prog w A env R) z) (Nb prog w A env R) z) (Nb prog w A env R) s)
    (n : Nat) (h : I n s) : codeAny (model prog w) A (.compLoop (sc2 elt t0 i0 t1 i1 scope pos) 1 it acc env) R s := by
  refine codeAny_loop rfl I (fun n s hI => ?_) n h
  show wpAny _ A ((compTurn (sc2 elt t0 i0 t1 i1 scope pos) 1 it acc env).onRaise (fun x => do noteFrame x env; theTreesLotGoes x)) _ _ s
  refine wpAny_noted ?_
  rw [sc2_inner]
  refine wpAny_bind (wpAny_standAt (wpAny_bind (wpAny_mono (turn n s hI) (fun r z hz => ?_) fun _ _ e => e)))
  cases r with
  | none => exact wpAny_pure hz
  | some v =>
    refine wpAny_bind (wpAny_mono hz (fun _ z hz => ?_) fun _ _ e => e)
    refine wpAny_bind (wpAny_mono hz (fun _ z hz => ?_) fun _ _ e => e)
    refine wpAny_bind (wpAny_tests_nil ?_)
    exact wpAny_bind (wpAny_bind (wpAny_mono hz (fun x z hz => wpAny_bind (wpAny_standAt (wpAny_bind (wpAny_mono hz (fun _ z hz => wpAny_pure (wpAny_pure ⟨rfl, hz⟩)) fun _ _ e => e)))) fun _ _ e => e))
theorem sc2_start1 (h0 : codeAny (model prog w) A (.compLoop (sc2 elt t0 i0 t1 i1 scope pos) 1 it acc env) R s)
    (h : wpAny (model prog w) A (pyIter it) (fun it' z => codeAny (model prog w) A (.compLoop (sc2 elt t0 i0 t1 i1 scope pos) 1 it' acc env) R z) (Nb prog w A env R) s) :
    codeAny (model prog w) A (.compStart (sc2 elt t0 i0 t1 i1 scope pos) 1 it acc env) R s := by
  refine codeAny_of_tree ?_
  show wpAny _ _ ((compStart (sc2 elt t0 i0 t1 i1 scope pos) 1 it acc env).onRaise (fun x => do noteFrame x env; standAt theWindowsPlace)) _ _ s
  refine wpAny_notedAt ?_
  unfold compStart
  show wpAny _ _ (ask >>= _) _ _ s
  refine wpAny_bind (wpAny_askSetting (wpAny_ite ?_))
  split
  · first
      | exact wpAny_bind (wpAny_pure (wpAny_pure (And.intro rfl h0)))
      | exact wpAny_pure (And.intro rfl h0)
  · refine wpAny_bind (wpAny_rule ?_)
    show wpAny _ _ (standAt i1.pos >>= _) _ _ s
    exact wpAny_bind (wpAny_standAt (wpAny_bind (wpAny_mono h (fun it' z hz => wpAny_pure (And.intro rfl hz)) fun _ _ e => e)))
end
end Ml
namespace Ml
open PySem PySem.Spec PyProof.Rows L2
/-! ### a set of a tuple; its length; the greatest, or a default -/
section
variable {X : Cx}
theorem sub_len : ∀ (zs l : List Int), l.Nodup → (∀ k ∈ l, k ∈ zs) → l.length ≤ zs.length ∧ (¬ zs.Nodup → l.length < zs.length)
  | [], l, _, h => by
    have : l = [] := List.eq_nil_iff_forall_not_mem.mpr fun k hk => by simpa using h k hk
    subst this
    exact ⟨Nat.le_refl _, fun h => absurd List.nodup_nil h⟩
  | z :: r, l, nd, h => by
    have h1 : ∀ k ∈ l.erase z, k ∈ r := fun k hk => by
      obtain ⟨a, b⟩ := (List.Nodup.mem_erase_iff nd).mp hk
      rcases List.mem_cons.mp (h k b) with e | e
      · exact absurd e a
      · exact e
    obtain ⟨i1, i2⟩ := sub_len r (l.erase z) (nd.erase z) h1
    have hl : l.length ≤ (l.erase z).length + 1 := by
      by_cases hz : z ∈ l
      · rw [List.length_erase_of_mem hz]
        have := List.length_pos_of_mem hz
        omega
      · rw [List.erase_of_not_mem hz]
        omega
    refine ⟨by show l.length ≤ r.length + 1; omega, fun hn => ?_⟩
    show l.length < r.length + 1
    by_cases hz : z ∈ r
    · have := (sub_len r l nd fun k hk => by
        rcases List.mem_cons.mp (h k hk) with e | e
        · rw [e]; exact hz
        · exact e).1
      omega
    · have := i2 (fun z' => hn (List.nodup_cons.mpr ⟨hz, z'⟩))
      omega
end
end Ml
namespace Ml
open PySem PySem.Spec PyProof.Rows L2
/-! ### a dict that is locked meanwhile -/
def Off (d : Addr) (H H' : Hp) : Prop := ∀ b o, H b = some o → b ≠ d → H' b = some o
theorem Off.upd {d : Addr} {H : Hp} {o : HO} : Off d H (L2.upd H d o) := fun b x e n => by rw [upd_ne n]; exact e
theorem Off.trans {d : Addr} {H H1 H2 : Hp} (a : Off d H H1) (b : Off d H1 H2) : Off d H H2 := fun c o h n => b c o (a c o h n) n
theorem Sm.off {d : Addr} {H H' : Hp} (a : Sm H H') : Off d H H' := fun c o h _ => a c o h
theorem Off.sqT {K : PySem.W.Frag} {d a : Addr} {H H' : Hp} {kvs : List (Key × V)} {xs : List V} (e : Off d H H') (hd : H d = some (.dK kvs)) (h : SqT K H a xs) : SqT K H' a xs := by
  rcases h with (q | ⟨o, q⟩) | q
  · exact .inl (.inl (e _ _ q (ne_of q hd (by intro z; cases z))))
  · exact .inl (.inr ⟨o, e _ _ q (ne_of q hd (by intro z; cases z))⟩)
  · exact .inr q
theorem Off.it {K : PySem.W.Frag} {d : Addr} {H H' : Hp} {kvs : List (Key × V)} {v : V} {ns : List Int} (e : Off d H H') (hd : H d = some (.dK kvs)) (h : IT K H v ns) : IT K H' v ns := by
  obtain ⟨p, h1, h2⟩ := h
  exact ⟨p, h1, e.sqT hd h2⟩
theorem Off.tt {K : PySem.W.Frag} {d : Addr} {H H' : Hp} {kvs : List (Key × V)} {v : V} {t : List (List Int)} (e : Off d H H') (hd : H d = some (.dK kvs)) (h : TT K H v t) : TT K H' v t := by
  obtain ⟨p, vs, h1, h2, h3⟩ := h
  exact ⟨p, vs, h1, e.sqT hd h2, h3.1, fun i v ns a b => e.it hd (h3.2 i v ns a b)⟩
/-! ### limits by their names -/
end Ml
namespace Ml
open PySem PySem.Spec PyProof.Rows L2
/-! ### name = {k: v for ..} -/
/-! ### a dict of paths by their last items -/
abbrev nIv (os : List Nat) : List V := os.map fun i : Nat => V.int (i : Int)
def PD (K : PySem.W.Frag) (H : Hp) (kvs : List (Key × V)) (S : List (List Nat)) : Prop := kvs.length = S.length ∧ ∀ (i : Nat) kv p, kvs[i]? = some kv → S[i]? = some p → kv.1 = Sum.inl ((lst p : Nat) : Int) ∧ ∃ a, kv.2 = .ref a ∧ SqT K H a (nIv p)
theorem PD.same {K : PySem.W.Frag} {H H' : Hp} {kvs : List (Key × V)} {S : List (List Nat)} (h : PD K H kvs S) (e : Sm H H') : PD K H' kvs S :=
  ⟨h.1, fun i kv p a b => let ⟨h1, q, h2, h3⟩ := h.2 i kv p a b; ⟨h1, q, h2, e.sqT h3⟩⟩
theorem PD.off {K : PySem.W.Frag} {d : Addr} {H H' : Hp} {ls : List (Key × V)} {kvs : List (Key × V)} {S : List (List Nat)} (h : PD K H kvs S) (e : Off d H H') (hd : H d = some (.dK ls)) : PD K H' kvs S :=
  ⟨h.1, fun i kv p a b => let ⟨h1, q, h2, h3⟩ := h.2 i kv p a b; ⟨h1, q, h2, e.sqT hd h3⟩⟩
theorem PD.nil {K : PySem.W.Frag} {H : Hp} : PD K H [] [] := ⟨rfl, fun i kv p a _ => by simp at a⟩
theorem PD.snoc {K : PySem.W.Frag} {H : Hp} {kvs : List (Key × V)} {S : List (List Nat)} {a : Addr} {p : List Nat} (h : PD K H kvs S) (hp : SqT K H a (nIv p)) : PD K H (kvs ++ [(Sum.inl ((lst p : Nat) : Int), .ref a)]) (S ++ [p]) := by
  refine ⟨by rw [List.length_append, List.length_append, h.1]; rfl, fun i kv q x y => ?_⟩
  by_cases hi : i < kvs.length
  · rw [List.getElem?_append_left hi] at x
    rw [List.getElem?_append_left (by rw [← h.1]; exact hi)] at y
    exact h.2 i kv q x y
  · rw [List.getElem?_append_right (by omega)] at x
    rw [List.getElem?_append_right (by rw [← h.1]; omega), ← h.1] at y
    have hx0 : i - kvs.length = 0 := by
      have := (List.getElem?_eq_some_iff.mp x).1
      simp at this
      omega
    rw [hx0] at x y
    cases Option.some.inj x
    cases Option.some.inj y
    exact ⟨rfl, a, rfl, hp⟩
theorem PD.take {K : PySem.W.Frag} {H : Hp} {kvs : List (Key × V)} {S : List (List Nat)} (h : PD K H kvs S) (m : Nat) : PD K H (kvs.take m) (S.take m) := by
  refine ⟨by rw [List.length_take, List.length_take, h.1], fun i kv p a b => ?_⟩
  rw [List.getElem?_take] at a b
  split at a
  · rename_i hi
    rw [if_pos hi] at b
    exact h.2 i kv p a b
  · cases a
end Ml
namespace Ml
open PySem PySem.Spec PyProof.Rows L2
/-! ### items, paths: values of any kind -/
def nD (l : List Nat) : List PyData := l.map fun i : Nat => .int (i : Int)
end Ml
namespace Ml
open PySem PySem.Spec PyProof.Rows L2
/-! ### how long the text of a text is -/
def Cps (x : Str) : Prop := ∀ c ∈ x.cps.toList, c < 16 ^ 8
/-! ### repr where an error is handled -/
end Ml
namespace Ml
open PySem PySem.Spec PyProof.Rows L2
/-! ### texts that are made: how long, of which signs -/
def GoodS (L : Nat) (z : Str) : Prop := z.length ≤ L ∧ Cps z
def GoodL (M : Nat) (ws : List Str) : Prop := mS ws ≤ M ∧ ∀ w ∈ ws, Cps w
theorem GoodS.mono {L L' : Nat} {z : Str} (h : GoodS L z) (e : L ≤ L') : GoodS L' z := ⟨Nat.le_trans h.1 e, h.2⟩
theorem GoodL.mono {L L' : Nat} {z : List Str} (h : GoodL L z) (e : L ≤ L') : GoodL L' z := ⟨Nat.le_trans h.1 e, h.2⟩
theorem GoodL.app {M N : Nat} {a b : List Str} (h : GoodL M a) (g : GoodL N b) : GoodL (M + N) (a ++ b) := by
  refine ⟨by rw [mS_app]; exact Nat.add_le_add h.1 g.1, fun w hw => ?_⟩
  rcases List.mem_append.mp hw with z | z
  · exact h.2 w z
  · exact g.2 w z
theorem GoodL.cut {M : Nat} {ws : List Str} (h : GoodL M ws) (a b : Nat) : GoodL M ((ws.drop a).take b) := by
  refine ⟨?_, fun w hw => h.2 w (List.mem_of_mem_drop (List.mem_of_mem_take hw))⟩
  have h1 := mS_take a ws
  have h2 := mS_take b (ws.drop a)
  have h3 := h.1
  omega
theorem GoodL.mem {M : Nat} {ws : List Str} (h : GoodL M ws) {w : Str} (hw : w ∈ ws) : GoodS M w := ⟨by have := mS_mem hw; have := h.1; omega, h.2 w hw⟩
/-! ### readings that yield such texts and lists of them -/
def GS (L : Nat) : Hp → V → Prop := fun _ v => ∃ z, v = .str z ∧ GoodS L z
def GLq (d r : Addr) (M lo : Nat) : Hp → V → Prop := fun H v => ∃ (p : Addr) (ws : List Str), v = .ref p ∧ H p = some (.lst (ws.map V.str)) ∧ p ≠ d ∧ p ≠ r ∧ GoodL M ws ∧ lo ≤ ws.length
section
variable {K : PySem.W.Frag} {d c r : Addr} {J : L2.St → Hp → Prop} {L B k W m B' k' W' m' k1 k2 M N lo M1 M2 lo1 lo2 : Nat} {G : Hp → V → Prop} {te te' : TE} {ta : TA} {tl th : TO}
theorem GLq.same {H H' : Hp} {v : V} (h : GLq d r M lo H v) (e : Sm H H') : GLq d r M lo H' v := by
  obtain ⟨p, ws, rfl, h1, h4⟩ := h
  exact ⟨p, ws, rfl, e _ _ h1, h4⟩
end
end Ml
namespace Ml
open PySem PySem.Spec PyProof.Rows L2
/-! ### a def in which a token is out when it begins -/
theorem PSsT.nox {X : Cx} {st : List Stmt} {t : TS} (h : PSsT X.nox st t) : PSsT X st t := fun pins s σ H D h0 I hw =>
  wpAny_mono (h pins s σ H D h0 (I.wish _) hw) (fun _ _ q => q.unwish) fun _ _ z => False.elim z
theorem okT {P : Program} {w : World} {K : PySem.W.Frag} {mg : Str → Option Value} {base : Heap} {x qual : Str} {st : Stmt} {f : Addr} {fd : FuncData} {N ps : List Str} {k : Nat} {sp : Sp} (F : Fun K x qual st f fd) (S : FnScope N ps (defScope st)) (hnc : ∀ y ∈ (defScope st).names, y.2 ≠ .cell) (hps : 1 ≤ ps.length) (len : ∀ vs H Q E, sp vs H Q E → vs.length = ps.length)
    (hbody : ∀ (cdv : Value) (A : Around) (outer : List Env) (s : Shared) (H : Hp) (vs : List V) (Q : VK) (E : XK), Room k (A.deeper (envOfC qual (defScope st) s.heap.objs.size f cdv)) → sp vs H Q E →
      ∃ t, PSsT (cxOf CX0 P w K mg base N qual (defScope st) f cdv A outer s H E).nox (defBody st) t ∧ t { nx := fun _ H' => Q .non H', rt := Q } (start N vs) H) : FnOk P w K mg base CX0 (k + 1) f fd ps sp := by
  obtain ⟨oc, od, kV, doc, pm, an, cdv, ct, osl, rfl, lk, hcd⟩ := F.ex
  refine fn_ofT lk hcd S hnc hps len fun A outer s H vs Q E hr hsp => ?_
  obtain ⟨t, h, q⟩ := hbody cdv A outer s H vs Q E hr hsp
  exact ⟨t, PSsT.nox h, q⟩
section
variable {X : Cx} {o e : Expr} {to te : TE}
theorem pet_m1 {id : String} {name : Str} {apos pos : Pos} {r : V → List V → Hp → VK → Prop} (slot : Slot "str" name id) (ty : typeOf (.builtin id) = pure (.type "method_descriptor")) (rule : MtR X id r) (ho : PET X o to) (he : PE X e te)
    (hs : starEach [e] X.env = [(false, eval e X.env)] := by rfl) (hbase : attributeBase o name X.env (eval o X.env) = eval o X.env := by rfl) (hline : (apos.endLine == pos.line) = true := by rfl) :
    PET X (.Call (.Attribute o name apos) [e] [] pos) (tM1 r to te) := by
  intro pins s σ H Q h0 I h
  refine PySem.Call_method1 hbase hs hline (thn (ho pins s σ H _ h0 I h) fun v s1 ⟨x, H1, I1, r1, q1⟩ => ?_)
  obtain ⟨⟨a, rfl⟩, q1⟩ := q1
  obtain ⟨t, rfl⟩ := _root_.id r1
  refine ⟨"str", _, PySem.F.plainAttrs_str, slot, ty, typeIs_str _ _ _, (fun _ e => nomatch e), Calls.callWith_builtin rfl (Calls.evalArgs_plain (Calls.spliced_cons ?_))⟩
  exact thn (he.run pins s1 σ H1 _ I1 q1) fun u s2 ⟨y, H2, I2, r2, q2⟩ => Calls.spliced_nil (rule pins s2 σ H2 _ [y] _ [u] Q I2 r1 (.cons r2 .nil) q2)
theorem pet_split {apos pos : Pos} (ho : PET X o to) (he : PE X e te) (hs : starEach [e] X.env = [(false, eval e X.env)] := by rfl) (hbase : attributeBase o "split" X.env (eval o X.env) = eval o X.env := by rfl) (hline : (apos.endLine == pos.line) = true := by rfl) :
    PET X (.Call (.Attribute o "split" apos) [e] [] pos) (tM1 (fun x xs H Q => ∃ a b, x = .str a ∧ xs = [.str b] ∧ (b.length == 0) = false ∧ a.length + 2 ≤ sizeLine ∧ rNewStrs (Txt.split a b) H Q) to te) :=
  pet_m1 PySem.F.slot_str_split PySem.F.type_str_split mt_split ho he hs hbase hline
end
/-! ### the tokens of a tree's text -/
mutual
def toks : PyData → List (List Nat)
  | .int i => [numI i]
  | .tuple ds => [40] :: (toksAll ds ++ [[41]])
  | _ => []
def toksAll : List PyData → List (List Nat)
  | [] => []
  | d :: ds => toks d ++ toksAll ds
end
theorem toksAll_flat : ∀ ds : List PyData, toksAll ds = ds.flatMap toks
  | [] => by unfold toksAll; rfl
  | d :: ds => by
    unfold toksAll
    rw [toksAll_flat ds, List.flatMap_cons]
theorem toks_int (i : Int) : toks (.int i) = [numI i] := by unfold toks; rfl
theorem toks_tup (ds : List PyData) : toks (.tuple ds) = [40] :: (ds.flatMap toks ++ [[41]]) := by
  rw [← toksAll_flat]
  conv => lhs; unfold toks
/-- the two replacings, sign by sign -/
def par80 (c : Nat) : List Nat := if c = 40 then [40, 32] else if c = 41 then [32, 41] else [c]
theorem replL_one (c : Nat) (z : List Nat) : ∀ l : List Nat, StrLaws.replL [c] z l = l.flatMap fun a => if a = c then z else [a]
  | [] => by rw [StrLaws.replL_nil]; rfl
  | a :: l => by
    rw [List.flatMap_cons]
    by_cases h : a = c
    · rw [StrLaws.replL_hit (by simp) (by rw [h]; rfl), if_pos h]
      show z ++ StrLaws.replL [c] z l = _
      rw [replL_one c z l]
    · rw [StrLaws.replL_miss (y := [c]) (z := z) (c := a) (r := l) (fun e => h (List.cons.inj (show [a] = [c] from e)).1), if_neg h, replL_one c z l]
      rfl
theorem two_repl (l : List Nat) : StrLaws.replL [41] [32, 41] (StrLaws.replL [40] [40, 32] l) = l.flatMap par80 := by
  rw [replL_one, replL_one]
  induction l with
  | nil => rfl
  | cons a l ih =>
    rw [List.flatMap_cons, List.flatMap_append, List.flatMap_cons, ih]
    congr 1
    unfold par80
    by_cases h : a = 40
    · rw [if_pos h, if_pos h]; rfl
    · rw [if_neg h, if_neg h]
      by_cases g : a = 41
      · rw [if_pos g, g]; rfl
      · rw [if_neg g]
        simp [g]
theorem par_num (n : Nat) : (TL.numL n).flatMap par80 = TL.numL n := by
  have : ∀ l : List Nat, (∀ c ∈ l, 48 ≤ c ∧ c ≤ 57) → l.flatMap par80 = l := fun l => by
    induction l with
    | nil => exact fun _ => rfl
    | cons a l ih =>
      intro h
      have ha := h a List.mem_cons_self
      rw [List.flatMap_cons, ih fun c hc => h c (List.mem_cons_of_mem _ hc)]
      unfold par80
      rw [if_neg (by omega), if_neg (by omega)]
      rfl
  exact this _ (TL.numL_digits n)
theorem join_jl (w : List Nat) (ws : List (List Nat)) : 32 :: TL.joinL [32] (w :: ws) = (w :: ws).flatMap fun p => 32 :: p := by
  rw [joinL_flat, List.flatMap_cons]
  rfl
/-- one level of a tree -/
theorem toks_node {l : Int} {ds : List PyData} (h : ∀ d ∈ ds, toks d ≠ [] ∧ (ctx d).flatMap par80 = TL.joinL [32] (toks d)) : (ctx (.tuple (.int l :: ds))).flatMap par80 = TL.joinL [32] (toks (.tuple (.int l :: ds))) := by
  have kids : (ds.map ctx).flatMap (fun p => 32 :: p.flatMap par80) = (ds.flatMap toks).flatMap fun p => 32 :: p := by
    induction ds with
    | nil => rfl
    | cons d ds ih =>
      obtain ⟨h1, h2⟩ := h d List.mem_cons_self
      rw [List.map_cons, List.flatMap_cons, List.flatMap_cons, List.flatMap_append, ← ih fun x hx => h x (List.mem_cons_of_mem _ hx), h2]
      cases e : toks d with
      | nil => exact absurd e h1
      | cons w ws => rw [join_jl]
  have e2 : ((ds.map ctx).flatMap fun p => [32] ++ p).flatMap par80 = (ds.map ctx).flatMap fun p => 32 :: p.flatMap par80 := by
    rw [List.flatMap_assoc]
    rfl
  have a1 : (ctx (.tuple (.int l :: ds))).flatMap par80 = par80 40 ++ (((numI l).flatMap par80 ++ ((ds.map ctx).flatMap fun p => [32] ++ p).flatMap par80) ++ [41].flatMap par80) := by
    rw [ctx_tup, List.map_cons, ctx_int, joinL_flat, List.flatMap_cons, List.flatMap_append, List.flatMap_append]
  have a2 : TL.joinL [32] (toks (.tuple (.int l :: ds))) = [40] ++ (([32] ++ numI l ++ (ds.flatMap toks).flatMap fun p => 32 :: p) ++ [32, 41]) := by
    rw [toks_tup, joinL_flat, List.flatMap_cons (f := toks), toks_int, List.flatMap_append, List.flatMap_append]
    simp
  rw [a1, a2, e2, kids]
  unfold numI
  rw [par_num]
  show [40, 32] ++ _ = _
  simp [par80]
/-! the stack -/
def stepO (st : List (List PyData)) (tok : List Nat) : Option (List (List PyData)) :=
  if tok = [40] then some ([] :: st)
  else if tok = [41] then match st with
    | inner :: top :: rest => some ((top ++ [.tuple inner]) :: rest)
    | _ => none
  else match st with
    | top :: rest => some ((top ++ [.int (NumText.digitsVal tok : Nat)]) :: rest)
    | _ => none
theorem numL_free80 (i : Int) : 40 ∉ numI i := numI_free (by omega)
theorem numL_free81 (i : Int) : 41 ∉ numI i := numI_free (by omega)
theorem step_num {i : Int} (hi : 0 ≤ i) (top : List PyData) (rest : List (List PyData)) : stepO (top :: rest) (numI i) = some ((top ++ [.int i]) :: rest) := by
  unfold stepO
  have n40 : numI i ≠ [40] := fun e => numL_free80 i (by rw [e]; simp)
  have n41 : numI i ≠ [41] := fun e => numL_free81 i (by rw [e]; simp)
  rw [if_neg n40, if_neg n41]
  have e : ((NumText.digitsVal (numI i) : Nat) : Int) = i := by
    unfold numI
    rw [TL.numL_val]
    omega
  show some ((top ++ [PyData.int ((NumText.digitsVal (numI i) : Nat) : Int)]) :: rest) = _
  rw [e]
theorem run_kids : ∀ {ds : List PyData} {top : List PyData} {rest : List (List PyData)}, (∀ d ∈ ds, ∀ top rest, (toks d).foldlM stepO (top :: rest) = some ((top ++ [d]) :: rest)) → (ds.flatMap toks).foldlM stepO (top :: rest) = some ((top ++ ds) :: rest)
  | [], top, rest, _ => by rw [List.append_nil]; rfl
  | d :: ds, top, rest, h => by
    rw [List.flatMap_cons, List.foldlM_append, h d List.mem_cons_self top rest]
    show (ds.flatMap toks).foldlM stepO ((top ++ [d]) :: rest) = _
    rw [run_kids fun x hx => h x (List.mem_cons_of_mem _ hx), List.append_assoc]
    rfl
theorem run_node {l : Int} (hl : 0 ≤ l) {ds : List PyData} (h : ∀ d ∈ ds, ∀ top rest, (toks d).foldlM stepO (top :: rest) = some ((top ++ [d]) :: rest)) (top : List PyData) (rest : List (List PyData)) : (toks (.tuple (.int l :: ds))).foldlM stepO (top :: rest) = some ((top ++ [.tuple (.int l :: ds)]) :: rest) := by
  rw [toks_tup, List.foldlM_cons]
  show (((PyData.int l :: ds).flatMap toks ++ [[41]]).foldlM stepO ([] :: top :: rest)) = _
  have e1 : [numI l].foldlM stepO ([] :: top :: rest) = some ([.int l] :: top :: rest) := by
    rw [List.foldlM_cons, step_num hl]
    rfl
  rw [List.foldlM_append, List.flatMap_cons, toks_int, List.foldlM_append, e1]
  show (Option.bind ((ds.flatMap toks).foldlM stepO ([PyData.int l] :: top :: rest)) fun s => [[41]].foldlM stepO s) = _
  rw [run_kids h]
  rfl
end Ml
/-! enumerate(list, start=1) -/
namespace Ml
open PySem PySem.Spec PyProof.Rows L2
/-- the list at a, each item in a new pair with its place, counted from one -/
def It1 (K : PySem.W.Frag) (a : Addr) : It :=
  ⟨fun i H => ∃ (xs : List V) (x : V), SqL K H a xs ∧ xs[i]? = some x, fun i H v H' => ∃ T x, v = .ref T ∧ H T = none ∧ H' = upd H T (.tup [.int ((i + 1 : Nat) : Int), x]) ∧ ∀ xs, SqL K H a xs → xs[i]? = some x, fun i H => ∃ xs : List V, SqL K H a xs ∧ i = xs.length⟩
theorem turn_enum1 {P : Program} {w : World} {K : PySem.W.Frag} {elts : List Expr} {kk : Nat} {tpos : Pos} (a e it : Addr) (nae : a ≠ e) (nai : a ≠ it) :
    Turn P w K (.Tuple elts kk tpos) (It1 K a) [e, it] e (fun i h => (∃ old, IsEnum h e it ((i + 1 : Nat) : Int) old) ∧ h.IsListIter it a i ∧ e ≠ it) where
  mem := by simp
  obj := fun i h st b hb => by
    obtain ⟨⟨old, he⟩, ⟨o, ho, _, hd⟩, _⟩ := st
    rcases List.mem_cons.mp hb with z | z
    · rw [z]; exact ⟨_, he, fun v q => nomatch q⟩
    · rw [List.mem_singleton.mp z]; exact ⟨o, ho, fun v q => by rw [hd] at q; cases q⟩
  keep := fun i h h' st k => by
    obtain ⟨⟨old, he⟩, hi, ne⟩ := st
    exact ⟨⟨old, k e (by simp) _ he⟩, hi.at fun o q => k it (by simp) o q, ne⟩
  item := by
    intro X hP hw hK calm i pins s σ H E I hf st hg
    subst hP hw hK
    obtain ⟨⟨old, he⟩, hit, ne⟩ := st
    obtain ⟨xs, x, hq, hx⟩ := hg
    obtain ⟨its, rv, isL, _⟩ := I.list hq
    obtain ⟨u, hu, ru⟩ := rv.get hx
    have hel : e < s.heap.objs.size := Heap.lt_size he
    have hil : it < s.heap.objs.size := by obtain ⟨_, q, _⟩ := hit; exact Heap.lt_size q
    have lt : i < its.toArray.size := by
      rw [List.size_toArray]
      exact (List.getElem?_eq_some_iff.mp hu).1
    have hA : X.A.in1.handled = none := I.ok.hd calm
    refine wpAny_pyNext_enum_itemC (PySem.Draws.list hA it a nai its.toArray) he ⟨hit, isL.isList⟩ lt ne (by simp only [List.mem_cons, List.not_mem_nil, or_false, not_or]; exact ⟨ne, nae.symm⟩) fun y g tk hy ho st' hT hsz hk => ?_
    obtain rfl : y = u := by
      have z : its[i]? = some y := by simpa using hy
      exact Option.some.inj (z.symm.trans hu)
    refine ⟨_, rfl, wpAny_letOwnedTupleGo_enum (s := { s with heap := g, toks := tk + 1 }) ho fun g2 he' sb => ?_⟩
    have hT2 : g2.get? s.heap.objs.size = some { cls := .type "tuple", data := .seq #[.int ((i + 1 : Nat) : Int) tk, y] } := (sb.2 _ (Nat.ne_of_gt hel)).trans hT
    have new : ObjOk X.prog X.w (upd H s.heap.objs.size (.tup [.int ((i + 1 : Nat) : Int), x])) g2 s.heap.objs.size (.tup [.int ((i + 1 : Nat) : Int), x]) :=
      ⟨by show 2 ≤ sizeLine; decide, [.int ((i + 1 : Nat) : Int) tk, y], .cons ⟨_, rfl⟩ (.cons ru .nil), ⟨_, hT2, rfl, _, rfl⟩⟩
    have I1 : Inv X pins σ (upd H s.heap.objs.size (.tup [.int ((i + 1 : Nat) : Int), x])) { s with heap := g2, toks := tk + 1 } :=
      I.turnedNew (ch := [e, it]) (fun b ob hb q => (sb.2 b (fun z => hb (by simp [z]))).trans (hk b ob (fun z => hb (by simp [z])) (fun z => hb (by simp [z])) q)) hf (Nat.le_refl _) new
    refine ⟨.ref s.heap.objs.size, _, I1, rfl, ⟨_, x, rfl, I.hok.fresh (Nat.le_refl _), rfl, fun ys hy => by rw [I.list_inj hy hq]; exact hx⟩, ⟨⟨y, ?_⟩, st'.1.at fun o q => (sb.2 it (Ne.symm ne)).trans q, ne⟩, fun b hb => ?_⟩
    · rw [show ((i + 1 + 1 : Nat) : Int) = ((i + 1 : Nat) : Int) + 1 by omega]
      exact he'
    · have lb : b < s.heap.objs.size := by
        rcases List.mem_cons.mp hb with z | z
        · rw [z]; exact hel
        · rw [List.mem_singleton.mp z]; exact hil
      rw [upd_ne (Nat.ne_of_lt lb)]
      exact (hf b hb).1
  done := by
    intro X hP hw hK calm i pins s σ H E I hf st hg
    subst hP hw hK
    obtain ⟨⟨old, he⟩, hit, ne⟩ := st
    obtain ⟨xs, hq, hx⟩ := hg
    obtain ⟨its, rv, isL, _⟩ := I.list hq
    obtain ⟨f0, f1, f2, f3, f4, f5⟩ := hf it (by simp)
    have hl := rv.length
    have hA : X.A.in1.handled = none := I.ok.hd calm
    have hn : its.toArray.size = i := by rw [List.size_toArray, ← hl]; exact hx.symm
    refine wpAny_pyNext_enum_endD (PySem.Draws.list hA it a nai its.toArray) he ⟨by rw [hn]; exact hit, isL.isList⟩ fun g eb => ⟨rfl, I.turned (t' := s.toks) (fun b o hb q => eb b o hb q) f0 f1 f3 f4 f5⟩
  self := fun A i s Q E st h => by
    obtain ⟨⟨_, he⟩, _⟩ := st
    exact wpAny_pyIter_enum he h
section
variable {M : Model} {A : Around} {E : Value → Shared → Prop} {s : Shared} {env : Env}
theorem callWith_type_kwB {pos : Pos} {id : String} {first : List Value} {args : List (Bool × Sem Value)} {keywords : List (Option Str × Sem Value)} {Q : Value → Shared → Prop}
    (hplain : args.any (·.1) = false) (hkw : keywords.any (·.1.isNone) = false)
    (h : wpAny M A (evalArgs (.type id) true args keywords) (fun a s₁ => wpAny M A (call (.type id) (first ++ a.pos) a.kw) Q E s₁) E s) :
    wpAny M A (callWith pos (.type id) first args keywords) Q E s := by
  unfold callWith
  refine wpAny_bind (wpAny_holding (wpAny_mono h (fun a s₁ h₁ => wpAny_bind (wpAny_standAt ?_)) fun _ _ x => x))
  simp only [hplain, hkw, Bool.or_false]
  refine wpAny_bind (wpAny_pure ?_)
  exact wpAny_bind (wpAny_mono h₁ (fun r s₂ hr => wpAny_bind (wpAny_holding (wpAny_point (wpAny_pure hr)))) fun _ _ x => x)
theorem callWith_typeK {pos : Pos} {id : String} {e : Expr} {rest : List Expr} {kws : List Keyword} {Q : Value → Shared → Prop}
    (h : wpAny M A (spliced (backTo pos (starEach (e :: rest) env))) (fun vs s₁ => wpAny M A (evalAll ((backToKw pos (keywordEach kws env)).map (·.2)))
      (fun kvs s₂ => wpAny M A (call (.type id) vs (((backToKw pos (keywordEach kws env)).filterMap (·.1)).zip kvs)) Q E s₂) E s₁) E s)
    (he : backTo pos (starEach (e :: rest) env) = (false, eval e env) :: backTo pos (starEach rest env) := by rfl)
    (hplain : (backTo pos (starEach (e :: rest) env)).any (·.1) = false := by rfl)
    (hall : (backToKw pos (keywordEach kws env)).all (·.1.isSome) = true := by rfl)
    (hkw : (backToKw pos (keywordEach kws env)).any (·.1.isNone) = false := by rfl) :
    wpAny M A (callWith pos (.type id) [] (backTo pos (starEach (e :: rest) env)) (backToKw pos (keywordEach kws env))) Q E s := by
  refine callWith_type_kwB hplain hkw ?_
  rw [he] at h ⊢
  exact evalArgs_kwB hall h
end
def iEnum1 (K : PySem.W.Frag) (ta : TA) (tk : TA) : TI := fun σ H R => ta σ H fun vs H1 => tk σ H1 fun zs H2 => ∃ a xs, vs = [.ref a] ∧ zs = [.int 1] ∧ SqL K H2 a xs ∧ R (It1 K a) H2
theorem pi_enum1 {X : Cx} {e ek : Expr} {ta tk : TA} {p pos tpos kp : Pos} {elts : List Expr} {kk : Nat} (hg : Gl X "enumerate") (hm : X.mg "enumerate" = none) (ha : PA X [e] ta) (hk : PK X [⟨some "start", ek, kp⟩] tk)
    (he : backTo pos (starEach [e] X.env) = (false, eval e X.env) :: backTo pos (starEach [] X.env) := by rfl) (hpl : (backTo pos (starEach [e] X.env)).any (·.1) = false := by rfl)
    (hall : (backToKw pos (keywordEach [⟨some "start", ek, kp⟩] X.env)).all (·.1.isSome) = true := by rfl) (hnone : (backToKw pos (keywordEach [⟨some "start", ek, kp⟩] X.env)).any (·.1.isNone) = false := by rfl)
    (hks : (backToKw pos (keywordEach [⟨some "start", ek, kp⟩] X.env)).filterMap (·.1) = [("start" : Str)] := by rfl) :
    PI X (.Tuple elts kk tpos) (.Call (.Name "enumerate" p) [e] [⟨some "start", ek, kp⟩] pos) (iEnum1 X.K ta tk) := by
  refine ⟨fun pins s σ H R I h => ?_⟩
  refine wpAny_Call_Name_kw (ld_blt I hg hm boot_enumerate ?_)
  refine callWith_typeK (thn (ha.run pos pins s σ H _ I h) fun us s1 ⟨vs, H1, I1, r1, q1⟩ => thn (hk.run pos pins s1 σ H1 _ I1 q1) fun ws z ⟨zs, H2, I2, r2, q2⟩ => ?_) he hpl hall hnone
  rw [hks]
  obtain ⟨a, xs, rfl, rfl, hq, q⟩ := q2
  obtain ⟨u, rfl, ru⟩ := r1.one
  cases ru
  obtain ⟨u2, rfl, ru2⟩ := r2.one
  obtain ⟨tk2, rfl⟩ : ∃ t, u2 = .int 1 t := by
    obtain ⟨t, e⟩ := ru2
    exact ⟨t, e⟩
  obtain ⟨its, rv, isL, _⟩ := I2.list hq
  have la : a < z.heap.objs.size := by
    obtain ⟨_, ho, _⟩ := isL.isList
    exact Heap.lt_size ho
  refine enum_begins_start (begins_list a its.toArray) isL.isList (by decide) (by decide) fun g he hit hsz hk' => wpAny_pyIter_enum he ?_
  have I3 : Inv X pins σ H2 { z with heap := g } := I2.kept (t' := z.toks) hk'
  refine ⟨z.heap.objs.size + 1, [z.heap.objs.size + 1, z.heap.objs.size], _, _, H2, rfl, I3, turn_enum1 a (z.heap.objs.size + 1) z.heap.objs.size (Nat.ne_of_lt (Nat.lt_succ_of_lt la)) (Nat.ne_of_lt la), ⟨⟨.none, he⟩, ⟨_, hit, rfl, rfl⟩, Nat.succ_ne_self _⟩, fun b hb => ?_, q⟩
  have le : z.heap.objs.size ≤ b := by
    rcases List.mem_cons.mp hb with e1 | e1
    · rw [e1]; exact Nat.le_succ _
    · rw [List.mem_singleton.mp e1]; exact Nat.le_refl _
  exact I2.fpOk le (I2.hok.fresh le)
/-- a loop over enumerate(list, start=1) -/
theorem for_enum1 {K : PySem.W.Frag} {a : Addr} {xs : List V} {g : TG} {tb : TS} {D : Ends} {σ : L2.St} {H : Hp} (Pv : Nat → L2.St → Hp → Prop) (h0 : Pv 0 σ H) (hq : ∀ i σ H, Pv i σ H → SqL K H a xs)
    (hs : ∀ (i : Nat) (x : V) (T : Addr) (σ : L2.St) (H : Hp), xs[i]? = some x → Pv i σ H → H T = none → g (.ref T) σ (upd H T (.tup [.int ((i + 1 : Nat) : Int), x])) fun σ2 H2 => tb { D with nx := Pv (i + 1), ct := Pv (i + 1), bk := D.nx } σ2 H2) (hd : ∀ σ H, Pv xs.length σ H → D.nx σ H) :
    ∃ W : Nat → Nat → L2.St → Hp → Prop, (∃ m, W 0 m σ H) ∧ ∀ i m σ H, W i m σ H →
      ((It1 K a).stop i H ∧ D.nx σ H) ∨ ((It1 K a).go i H ∧ ∃ N : L2.St → Hp → Prop, (∀ σ' H', N σ' H' → ∃ m', m' < m ∧ W (i + 1) m' σ' H') ∧ ∀ v H', (It1 K a).yld i H v H' → g v σ H' fun σ2 H2 => tb { D with nx := N, ct := N, bk := D.nx } σ2 H2) := by
  refine ⟨fun i m σ H => m = xs.length - i ∧ i ≤ xs.length ∧ Pv i σ H, ⟨xs.length, rfl, Nat.zero_le _, h0⟩, ?_⟩
  rintro i m σ H ⟨rfl, hi, p⟩
  have q := hq i σ H p
  by_cases lt : i < xs.length
  · refine .inr ⟨⟨xs, _, q, List.getElem?_eq_getElem lt⟩, Pv (i + 1), fun σ' H' p' => ⟨xs.length - (i + 1), by omega, rfl, lt, p'⟩, fun v H' y => ?_⟩
    obtain ⟨T, x, rfl, hT, rfl, f⟩ := y
    exact hs i x T σ H (f xs q) p hT
  · have e : i = xs.length := by omega
    subst e
    exact .inl ⟨⟨xs, q, rfl⟩, hd σ H p⟩
end Ml
namespace Ml
open PySem PySem.Spec PyProof.Rows L2
/-! values and what they are, place by place -/
def Als {α : Type} (R : V → α → Prop) (vs : List V) (xs : List α) : Prop := vs.length = xs.length ∧ ∀ (i : Nat) v x, vs[i]? = some v → xs[i]? = some x → R v x
theorem Als.nil {α : Type} {R : V → α → Prop} : Als R [] [] := ⟨rfl, fun i v x a _ => by simp at a⟩
theorem Als.append {α : Type} {R : V → α → Prop} {vs ws : List V} {xs ys : List α} (h : Als R vs xs) (g : Als R ws ys) : Als R (vs ++ ws) (xs ++ ys) := by
  refine ⟨by rw [List.length_append, List.length_append, h.1, g.1], fun i v x a b => ?_⟩
  by_cases hi : i < vs.length
  · rw [List.getElem?_append_left hi] at a
    rw [List.getElem?_append_left (by rw [← h.1]; exact hi)] at b
    exact h.2 i v x a b
  · rw [List.getElem?_append_right (by omega)] at a
    rw [List.getElem?_append_right (by rw [← h.1]; omega), ← h.1] at b
    exact g.2 _ v x a b
theorem Als.one {α : Type} {R : V → α → Prop} {v : V} {x : α} (h : R v x) : Als R [v] [x] := by
  refine ⟨rfl, fun i u y a b => ?_⟩
  cases i with
  | zero =>
    cases Option.some.inj a
    cases Option.some.inj b
    exact h
  | succ k => simp at a
theorem Als.snoc {α : Type} {R : V → α → Prop} {vs : List V} {xs : List α} {v : V} {x : α} (h : Als R vs xs) (q : R v x) : Als R (vs ++ [v]) (xs ++ [x]) := h.append (Als.one q)
theorem Als.mono {α : Type} {R R' : V → α → Prop} {vs : List V} {xs : List α} (h : Als R vs xs) (e : ∀ v x, R v x → R' v x) : Als R' vs xs := ⟨h.1, fun i v x a b => e v x (h.2 i v x a b)⟩
theorem Als.at {α : Type} {R : V → α → Prop} {vs : List V} {xs : List α} (h : Als R vs xs) {i : Nat} {v : V} (hv : vs[i]? = some v) : ∃ x, xs[i]? = some x ∧ R v x := by
  have hi : i < xs.length := by rw [← h.1]; exact (List.getElem?_eq_some_iff.mp hv).1
  exact ⟨xs[i], List.getElem?_eq_getElem hi, h.2 i v _ hv (List.getElem?_eq_getElem hi)⟩
/-- all but one list stays -/
def Fr (fo : Addr) (H H' : Hp) : Prop := ∀ b o, H b = some o → b ≠ fo → H' b = some o
theorem Fr.refl (fo : Addr) (H : Hp) : Fr fo H H := fun _ _ h _ => h
theorem Fr.upd {fo : Addr} {H H1 : Hp} {o : HO} (a : Fr fo H H1) : Fr fo H (L2.upd H1 fo o) := fun c x h n => by
  rw [upd_ne n]
  exact a c x h n
theorem Fr.sqT {K : PySem.W.Frag} {fo : Addr} {H H' : Hp} {a : Addr} {xs ys : List V} (e : Fr fo H H') (hf : H fo = some (.lst ys)) (h : SqT K H a xs) : SqT K H' a xs := by
  rcases h with (q | ⟨o, q⟩) | q
  · exact .inl (.inl (e _ _ q (ne_of q hf (by intro z; cases z))))
  · exact .inl (.inr ⟨o, e _ _ q (ne_of q hf (by intro z; cases z))⟩)
  · exact .inr q
theorem IT.fr {K : PySem.W.Frag} {fo : Addr} {H H' : Hp} {ys : List V} {v : V} {ns : List Int} (h : IT K H v ns) (e : Fr fo H H') (hf : H fo = some (.lst ys)) : IT K H' v ns := by
  obtain ⟨p, h1, h2⟩ := h
  exact ⟨p, h1, e.sqT hf h2⟩
theorem Rows.fr {K : PySem.W.Frag} {fo : Addr} {H H' : Hp} {ys : List V} {vs : List V} {t : List (List Int)} (h : Rows K H vs t) (e : Fr fo H H') (hf : H fo = some (.lst ys)) : Rows K H' vs t :=
  ⟨h.1, fun i v ns a b => (h.2 i v ns a b).fr e hf⟩
theorem TT.fr {K : PySem.W.Frag} {fo : Addr} {H H' : Hp} {ys : List V} {v : V} {t : List (List Int)} (h : TT K H v t) (e : Fr fo H H') (hf : H fo = some (.lst ys)) : TT K H' v t := by
  obtain ⟨p, vs, h1, h2, h3⟩ := h
  exact ⟨p, vs, h1, e.sqT hf h2, h3.fr e hf⟩
end Ml
namespace Ml
open PySem PySem.Spec PyProof.Rows L2
/-! ### trees of a nested table, as values -/
/-- the parts are told by items and levels -/
structure Can (t : List (List Int)) (S : List Nat) (l : Int) (Ss : List (List Nat)) : Prop where
  asc : S.Pairwise (· < ·)
  top : (∃ x ∈ S, ∃ y ∈ S, lev t x y = l) ∧ ∀ x ∈ S, ∀ y ∈ S, lev t x y ≤ l
  cls : ∀ P ∈ Ss, ∃ y ∈ S, P = S.filter fun x => decide (lev t y x < l)
  cov : ∀ x ∈ S, ∃ P ∈ Ss, x ∈ P
  ord : Ss.Pairwise fun a b => a.headD 0 < b.headD 0
structure NodeOk (t : List (List Int)) (S : List Nat) (l : Int) (Ss : List (List Nat)) : Prop where
  mem : ∀ x, x ∈ S ↔ ∃ P ∈ Ss, x ∈ P
  len : S.length = (Ss.map List.length).sum
  lt : ∀ P ∈ Ss, 0 < P.length ∧ P.length < S.length
  diff : ∀ x y, x ∈ S → y ∈ S → x ≠ y → (∀ P ∈ Ss, x ∈ P → y ∉ P) → lev t x y = l
  lv : LvOk l
  two : 2 ≤ S.length
  can : Can t S l Ss
inductive TrV (K : PySem.W.Frag) (H : Hp) (t : List (List Int)) : Nat → List Nat → V → Prop where
  | leaf (n i : Nat) (hi : i < 100) : TrV K H t n [i] (.int (i : Int))
  | node {n : Nat} {S : List Nat} {p : Addr} {l : Int} {vs : List V} {Ss : List (List Nat)} (h : SqT K H p (.int l :: vs)) (hl : vs.length = Ss.length)
      (hk : ∀ (k : Nat) v P, vs[k]? = some v → Ss[k]? = some P → TrV K H t n P v) (ok : NodeOk t S l Ss) : TrV K H t (n + 1) S (.ref p)
theorem TrV.same {K : PySem.W.Frag} {H H' : Hp} {t : List (List Int)} {n : Nat} {S : List Nat} {v : V} (h : TrV K H t n S v) (e : Sm H H') : TrV K H' t n S v := by
  induction h with
  | leaf n i hi => exact .leaf n i hi
  | node h hl _ ok ih => exact .node (e.sqT h) hl ih ok
theorem TrV.mono {K : PySem.W.Frag} {H : Hp} {t : List (List Int)} {n : Nat} {S : List Nat} {v : V} (h : TrV K H t n S v) : ∀ {m : Nat}, n ≤ m → TrV K H t m S v := by
  induction h with
  | leaf n i hi => exact fun _ => .leaf _ i hi
  | node h hl _ ok ih =>
    intro m hm
    obtain ⟨k, rfl⟩ : ∃ k, m = k + 1 := ⟨m - 1, by omega⟩
    exact .node h hl (fun j v P a b => ih j v P a b (by omega)) ok
theorem TrV.kp {K : PySem.W.Frag} {H H' : Hp} {t : List (List Int)} {n : Nat} {S : List Nat} {v : V} {d c r : Addr} {m : Nat} (h : TrV K H t n S v) (g : Dr H d c r m) (e : Kp d r H H') : TrV K H' t n S v := by
  induction h with
  | leaf n i hi => exact .leaf n i hi
  | node h hl _ ok ih => exact .node (g.kpT e h) hl ih ok
theorem TrV.upd {K : PySem.W.Frag} {H : Hp} {t : List (List Int)} {n : Nat} {S : List Nat} {v : V} {o : Addr} {us zs : List V} (h : TrV K H t n S v) (ho : H o = some (.lst us)) : TrV K (L2.upd H o (.lst zs)) t n S v := by
  induction h with
  | leaf n i hi => exact .leaf n i hi
  | node h hl _ ok ih => exact .node (sqT_upd ho h) hl ih ok
theorem TrV.pos {K : PySem.W.Frag} {H : Hp} {t : List (List Int)} {n : Nat} {S : List Nat} {v : V} (h : TrV K H t n S v) : 0 < S.length := by
  cases h with
  | leaf n i hi => exact Nat.zero_lt_one
  | node h hl hk ok =>
    have := ok.two
    omega
/-! ### as data -/
theorem shown_tup_le (ds : List PyData) : (PyData.shown (.tuple ds)).length ≤ ((PyData.shownAll ds).map (·.length)).sum + 2 * (PyData.shownAll ds).length + 3 := by
  have e := tupleText_len_le (PyData.shownAll ds)
  show (tupleText (PyData.shownAll ds)).length ≤ _
  omega
structure Good (n : Nat) (d : PyData) : Prop where
  sh : d.showable = true
  nd : d.hasDict = false
  dp : d.depth ≤ n
  ly : d.canLay0 = true
theorem good_int (n : Nat) {i : Int} (h : i.natAbs < 10 ^ 13) : Good n (.int i) := by
  have e : i.natAbs.log2 < 1920 := by
    have : i.natAbs < 2 ^ 64 := Nat.lt_of_lt_of_le h (by decide)
    exact Nat.lt_trans (PySem.Flt.log2_lt_of (by decide) this) (by decide)
  exact ⟨by simp [PyData.showable, e], by simp [PyData.hasDict], by simp [PyData.depth], by simp [PyData.canLay0]⟩
theorem kidsT {K : PySem.W.Frag} {H : Hp} {n : Nat} : ∀ {vs : List V} {Ss : List (List Nat)}, vs.length = Ss.length → (∀ (k : Nat) v P, vs[k]? = some v → Ss[k]? = some P → ∃ d, Dp K H v d ∧ Good n d ∧ d.shown.length + 25 ≤ 40 * P.length) →
    ∃ ds, DpAll K H vs ds ∧ PyData.showableAll ds = true ∧ PyData.hasDictAll ds = false ∧ PyData.depthAll ds ≤ n ∧ PyData.canLayAll0 ds = true ∧ ((PyData.shownAll ds).map (·.length)).sum + 25 * Ss.length ≤ 40 * (Ss.map List.length).sum ∧ (PyData.shownAll ds).length = Ss.length
  | [], [], _, _ => ⟨[], .nil, by simp [PyData.showableAll], by simp [PyData.hasDictAll], by simp [PyData.depthAll], by simp [PyData.canLayAll0], by simp [PyData.shownAll], by simp [PyData.shownAll]⟩
  | [], _ :: _, e, _ => by simp at e
  | _ :: _, [], e, _ => by simp at e
  | v :: vs, P :: Ss, e, h => by
    obtain ⟨d, d1, g, d2⟩ := h 0 v P rfl rfl
    obtain ⟨ds, a1, a2, a3, a4, a5, a6, a7⟩ := kidsT (vs := vs) (Ss := Ss) (by simpa using e) fun k u Q x y => h (k + 1) u Q (by simpa using x) (by simpa using y)
    refine ⟨d :: ds, .cons d1 a1, by simp [PyData.showableAll, g.sh, a2], by simp [PyData.hasDictAll, g.nd, a3], ?_, by simp [PyData.canLayAll0, g.ly, a5], ?_, by simp [PyData.shownAll, a7]⟩
    · simp only [PyData.depthAll]
      have := g.dp
      omega
    · simp only [PyData.shownAll, List.map_cons, List.sum_cons, List.length_cons]
      omega
theorem two_parts {t : List (List Int)} {S : List Nat} {l : Int} {Ss : List (List Nat)} (ok : NodeOk t S l Ss) : 2 ≤ Ss.length := by
  match Ss, ok with
  | [], ok =>
    have h1 := ok.len
    have h2 := ok.two
    rw [h1] at h2
    simp at h2
  | [P], ok =>
    have h1 := ok.len
    have h2 := (ok.lt P List.mem_cons_self).2
    simp at h1
    omega
  | _ :: _ :: _, _ => simp
theorem TrV.dp {K : PySem.W.Frag} {H : Hp} {t : List (List Int)} {n : Nat} {S : List Nat} {v : V} (h : TrV K H t n S v) : ∃ d, Dp K H v d ∧ Good n d ∧ d.shown.length + 25 ≤ 40 * S.length := by
  induction h with
  | leaf n i hi =>
    refine ⟨.int (i : Int), .int _, good_int n (by omega), ?_⟩
    have := shown_int14 (i := (i : Int)) (by omega)
    show _ ≤ 40 * 1
    omega
  | node h hl _ ok ih =>
    rename_i n S p l vs Ss hk
    obtain ⟨ds, a1, a2, a3, a4, a5, a6, a7⟩ := kidsT hl ih
    have lv := ok.lv
    have gl := good_int (n + 1) (i := l) (by unfold LvOk at lv; omega)
    refine ⟨.tuple (.int l :: ds), .tup h (.cons (.int l) a1), ⟨?_, ?_, ?_, ?_⟩, ?_⟩
    · have g := gl.sh
      simp only [PyData.showable, PyData.showableAll] at g ⊢
      rw [g, a2]
      rfl
    · simp [PyData.hasDict, PyData.hasDictAll, a3]
    · simp only [PyData.depth, PyData.depthAll]
      omega
    · simp [PyData.canLay0, PyData.canLayAll0, a5]
    · have e := shown_tup_le (.int l :: ds)
      have e1 := shown_int14 (i := l) (by unfold LvOk at lv; omega)
      have e2 := two_parts ok
      simp only [PyData.shownAll, List.map_cons, List.sum_cons, List.length_cons] at e
      have e3 := ok.len
      omega
/-! ### dividing items at their greatest level -/
structure Split (t : List (List Int)) (S : List Nat) (l : Int) (Ss : List (List Nat)) (L : List Nat) : Prop where
  nd : L.Nodup
  sub : ∀ x ∈ L, x ∈ S
  cov : ∀ x ∈ S, x ∈ L ∨ ∃ P ∈ Ss, x ∈ P
  dis : ∀ P ∈ Ss, ∀ x ∈ P, x ∈ S ∧ x ∉ L
  len : S.length = (Ss.map List.length).sum + L.length
  lt : ∀ P ∈ Ss, 0 < P.length ∧ P.length < S.length
  cross : ∀ P ∈ Ss, ∀ x ∈ P, ∀ y ∈ S, y ∉ P → lev t x y = l
  sasc : S.Pairwise (· < ·)
  lasc : L.Pairwise (· < ·)
  cls : ∀ P ∈ Ss, ∃ y ∈ S, P = S.filter fun x => decide (lev t y x < l)
  ord : Ss.Pairwise fun a b => a.headD 0 < b.headD 0
  low : ∀ P ∈ Ss, ∀ x ∈ L, P.headD 0 < x
theorem asc_nd {S : List Nat} (h : S.Pairwise (· < ·)) : S.Nodup := h.imp fun {a b} z e => by omega
theorem asc_eq {S T : List Nat} (h : S.Pairwise (· < ·)) (k : T.Pairwise (· < ·)) (e : ∀ x, x ∈ S ↔ x ∈ T) : S = T :=
  ((List.perm_ext_iff_of_nodup (asc_nd h) (asc_nd k)).mpr e).eq_of_pairwise (le := (· ≤ ·)) (fun a b _ _ x y => by omega) (h.imp fun {a b} z => by omega) (k.imp fun {a b} z => by omega)
theorem filt_two {α : Type} (f : α → Bool) : ∀ L : List α, (L.filter f).length + (L.filter fun x => !f x).length = L.length
  | [] => rfl
  | a :: L => by
    have ih := filt_two f L
    by_cases h : f a = true
    · simp only [List.filter_cons, h, if_true, List.length_cons, Bool.not_true, Bool.false_eq_true, if_false]
      omega
    · have h' : f a = false := by cases e : f a <;> simp_all
      simp only [List.filter_cons, h', if_false, Bool.not_false, if_true, List.length_cons, Bool.false_eq_true]
      omega
def partOf (t : List (List Int)) (l : Int) (a : Nat) (L : List Nat) : List Nat := L.filter fun x => decide (lev t a x < l)
theorem Split.step {t : List (List Int)} {S : List Nat} {l : Int} {Ss : List (List Nat)} {a : Nat} {L : List Nat} (hU : Ultra t) (hS : ∀ x ∈ S, x < t.length) (l0 : 0 < l) (hmax : ∀ x ∈ S, ∀ y ∈ S, lev t x y ≤ l) (hz : ∃ x ∈ S, ∃ y ∈ S, lev t x y = l)
    (sp : Split t S l Ss (a :: L)) : Split t S l (Ss ++ [partOf t l a (a :: L)]) ((a :: L).filter fun x => !decide (x ∈ partOf t l a (a :: L))) := by
  have haS : a ∈ S := sp.sub a List.mem_cons_self
  have haP : a ∈ partOf t l a (a :: L) := List.mem_filter.mpr ⟨List.mem_cons_self, decide_eq_true (by rw [lev_self]; exact l0)⟩
  have headP : (partOf t l a (a :: L)).headD 0 = a := by
    unfold partOf
    rw [List.filter_cons, if_pos (decide_eq_true (by rw [lev_self]; exact l0))]
    rfl
  have inP : ∀ x, x ∈ partOf t l a (a :: L) ↔ x ∈ a :: L ∧ lev t a x < l := fun x => by
    unfold partOf
    rw [List.mem_filter, decide_eq_true_iff]
  have memL : ∀ x, x ∈ (a :: L).filter (fun x => !decide (x ∈ partOf t l a (a :: L))) ↔ x ∈ a :: L ∧ x ∉ partOf t l a (a :: L) := fun x => by
    rw [List.mem_filter]
    simp
  have new : ∀ x ∈ partOf t l a (a :: L), ∀ y ∈ S, y ∉ partOf t l a (a :: L) → lev t x y = l := fun x hx y hy hn => by
    obtain ⟨hx1, hx2⟩ := (inP x).mp hx
    have hxS := sp.sub x hx1
    rcases sp.cov y hy with h | ⟨P, hP, hyP⟩
    · have h3 : ¬ lev t a y < l := fun z => hn ((inP y).mpr ⟨h, z⟩)
      have u := hU a x y (hS a haS) (hS x hxS) (hS y hy)
      have m := hmax x hxS y hy
      omega
    · rw [lev_comm]
      exact sp.cross P hP y hyP x hxS fun z => (sp.dis P hP x z).2 hx1
  refine ⟨sp.nd.filter _, fun x hx => sp.sub x ((memL x).mp hx).1, fun x hx => ?_, fun P hP x hx => ?_, ?_, fun P hP => ?_, fun P hP x hx y hy hn => ?_, sp.sasc, sp.lasc.filter _, fun P hP => ?_, ?_, fun P hP x hx => ?_⟩
  · rcases sp.cov x hx with h | ⟨P, hP, h⟩
    · by_cases z : x ∈ partOf t l a (a :: L)
      · exact .inr ⟨_, List.mem_append_right _ (List.mem_singleton.mpr rfl), z⟩
      · exact .inl ((memL x).mpr ⟨h, z⟩)
    · exact .inr ⟨P, List.mem_append_left _ hP, h⟩
  · rcases List.mem_append.mp hP with hP | hP
    · obtain ⟨h1, h2⟩ := sp.dis P hP x hx
      exact ⟨h1, fun z => h2 ((memL x).mp z).1⟩
    · rw [List.mem_singleton.mp hP] at hx
      exact ⟨sp.sub x ((inP x).mp hx).1, fun z => ((memL x).mp z).2 hx⟩
  · have e1 := sp.len
    have e2 := filt_two (fun x => decide (lev t a x < l)) (a :: L)
    have e3 : (a :: L).filter (fun x => !decide (x ∈ partOf t l a (a :: L))) = (a :: L).filter (fun x => !decide (lev t a x < l)) := by
      refine List.filter_congr fun x hx => ?_
      congr 1
      rw [decide_eq_decide, inP x]
      exact ⟨fun z => z.2, fun z => ⟨hx, z⟩⟩
    rw [e3, List.map_append, List.sum_append]
    show _ = _ + ([(partOf t l a (a :: L)).length].sum) + _
    unfold partOf
    simp only [List.sum_cons, List.sum_nil]
    omega
  · rcases List.mem_append.mp hP with hP | hP
    · exact sp.lt P hP
    · rw [List.mem_singleton.mp hP]
      refine ⟨List.length_pos_of_mem haP, ?_⟩
      obtain ⟨x, hx, y, hy, e⟩ := hz
      have u := hU x a y (hS x hx) (hS a haS) (hS y hy)
      rw [lev_comm t x a] at u
      obtain ⟨z, hzS, hzP⟩ : ∃ z ∈ S, z ∉ partOf t l a (a :: L) := by
        by_cases q : lev t a x < l
        · exact ⟨y, hy, fun w => by have := ((inP y).mp w).2; omega⟩
        · exact ⟨x, hx, fun w => q ((inP x).mp w).2⟩
      have := List.Nodup.length_le_of_subset (l₁ := z :: partOf t l a (a :: L)) (l₂ := S) (List.nodup_cons.mpr ⟨hzP, sp.nd.filter _⟩) (fun w hw => by
        rcases List.mem_cons.mp hw with rfl | hw
        · exact hzS
        · exact sp.sub w ((inP w).mp hw).1)
      rw [List.length_cons] at this
      omega
  · rcases List.mem_append.mp hP with hP | hP
    · exact sp.cross P hP x hx y hy hn
    · rw [List.mem_singleton.mp hP] at hx hn
      exact new x hx y hy hn
  · rcases List.mem_append.mp hP with hP | hP
    · exact sp.cls P hP
    · rw [List.mem_singleton.mp hP]
      refine ⟨a, haS, asc_eq (sp.lasc.filter _) (sp.sasc.filter _) fun x => ?_⟩
      rw [inP x, List.mem_filter, decide_eq_true_iff]
      refine ⟨fun z => ⟨sp.sub x z.1, z.2⟩, fun z => ⟨?_, z.2⟩⟩
      rcases sp.cov x z.1 with q | ⟨P', hP', q⟩
      · exact q
      · have := sp.cross P' hP' x q a haS fun w => (sp.dis P' hP' a w).2 List.mem_cons_self
        rw [lev_comm] at this
        omega
  · refine List.pairwise_append.mpr ⟨sp.ord, List.pairwise_singleton _ _, fun P hP Q hQ => ?_⟩
    rw [List.mem_singleton.mp hQ, headP]
    exact sp.low P hP a List.mem_cons_self
  · have hxL := ((memL x).mp hx).1
    rcases List.mem_append.mp hP with hP | hP
    · exact sp.low P hP x hxL
    · rw [List.mem_singleton.mp hP, headP]
      rcases List.mem_cons.mp hxL with e | hxL
      · exact absurd (e ▸ haP) ((memL x).mp hx).2
      · exact (List.pairwise_cons.mp sp.lasc).1 x hxL
theorem Split.done {t : List (List Int)} {S : List Nat} {l : Int} {Ss : List (List Nat)} (sp : Split t S l Ss []) (hl : LvOk l) (h2 : 2 ≤ S.length) (hz : ∃ x ∈ S, ∃ y ∈ S, lev t x y = l) (hm : ∀ x ∈ S, ∀ y ∈ S, lev t x y ≤ l) : NodeOk t S l Ss := by
  have can : Can t S l Ss := ⟨sp.sasc, ⟨hz, hm⟩, sp.cls, fun x hx => (sp.cov x hx).resolve_left List.not_mem_nil, sp.ord⟩
  refine ⟨fun x => ⟨fun hx => ?_, fun ⟨P, hP, hx⟩ => (sp.dis P hP x hx).1⟩, by have := sp.len; simpa using this, sp.lt, fun x y hx hy hne hd => ?_, hl, h2, can⟩
  · rcases sp.cov x hx with h | h
    · simp at h
    · exact h
  · rcases sp.cov x hx with h | ⟨P, hP, hxP⟩
    · simp at h
    · exact sp.cross P hP x hxP y hy (hd P hP hxP)
/-- both items within one part: no leaf -/
theorem TrV.both {K : PySem.W.Frag} {H : Hp} {t : List (List Int)} {n : Nat} {S : List Nat} {v : V} (h : TrV K H t n S v) {x y : Nat} (hx : x ∈ S) (hy : y ∈ S) (hne : x ≠ y) :
    ∃ (m : Nat) (p : Addr) (l : Int) (vs : List V) (Ss : List (List Nat)), n = m + 1 ∧ v = .ref p ∧ SqT K H p (.int l :: vs) ∧ vs.length = Ss.length ∧ (∀ (k : Nat) v P, vs[k]? = some v → Ss[k]? = some P → TrV K H t m P v) ∧ NodeOk t S l Ss := by
  cases h with
  | leaf n i hi =>
    rw [List.mem_singleton.mp hx, List.mem_singleton.mp hy] at hne
    exact absurd rfl hne
  | node h hl hk ok => exact ⟨_, _, _, _, _, rfl, rfl, h, hl, hk, ok⟩
/-! ### one tree, told by levels and items -/
theorem can_one {t : List (List Int)} (hU : Ultra t) {S : List Nat} (hS : ∀ x ∈ S, x < t.length) {l l' : Int} {Ss Ss' : List (List Nat)} (l0 : 0 < l) (a : Can t S l Ss) (b : Can t S l' Ss') : l = l' ∧ Ss = Ss' := by
  have el : l = l' := by
    obtain ⟨x, hx, y, hy, e⟩ := a.top.1
    obtain ⟨x', hx', y', hy', e'⟩ := b.top.1
    have h1 := a.top.2 x' hx' y' hy'
    have h2 := b.top.2 x hx y hy
    omega
  subst el
  refine ⟨rfl, ?_⟩
  have mem : ∀ {Ts : List (List Nat)}, Can t S l Ts → ∀ P, P ∈ Ts ↔ ∃ y ∈ S, P = S.filter fun x => decide (lev t y x < l) := fun {Ts} c P => by
    refine ⟨c.cls P, fun ⟨y, hy, e⟩ => ?_⟩
    obtain ⟨P', hP', hyP⟩ := c.cov y hy
    obtain ⟨y', hy', e'⟩ := c.cls P' hP'
    rw [e', List.mem_filter, decide_eq_true_iff] at hyP
    have : P = P' := by
      rw [e, e']
      refine List.filter_congr fun x hx => ?_
      rw [decide_eq_decide]
      have u1 := hU y y' x (hS y hy) (hS y' hy') (hS x hx)
      have u2 := hU y' y x (hS y' hy') (hS y hy) (hS x hx)
      rw [lev_comm t y y'] at u1
      have := hyP.2
      omega
    rw [this]
    exact hP'
  have pos : ∀ {Ts : List (List Nat)}, Can t S l Ts → (∀ P, P ∈ Ts ↔ ∃ y ∈ S, P = S.filter fun x => decide (lev t y x < l)) := fun c => mem c
  have nd : ∀ {Ts : List (List Nat)}, Can t S l Ts → Ts.Nodup := fun c => c.ord.imp fun {p q} z e => by rw [e] at z; omega
  have pm : Ss.Perm Ss' := (List.perm_ext_iff_of_nodup (nd a) (nd b)).mpr fun P => by rw [mem a P, mem b P]
  refine pm.eq_of_pairwise (le := fun p q => p.headD 0 < q.headD 0) (fun p q _ _ x y => by omega) a.ord b.ord
theorem TrV.len1 {K : PySem.W.Frag} {H : Hp} {t : List (List Int)} {n i : Nat} {v : V} (h : TrV K H t n [i] v) : v = .int (i : Int) := by
  generalize hz : [i] = z at h
  cases h with
  | leaf n j hj =>
    cases hz
    rfl
  | node h hl hk ok =>
    have := ok.two
    rw [← hz] at this
    simp at this
end Ml
namespace Ml
open PySem PySem.Spec PyProof.Rows L2
/-! ### lists of good values: by displays, concatenations and comprehensions -/
def GLs (d c r : Addr) (J : L2.St → Hp → Prop) (L k a m : Nat) (G : Hp → V → Prop) (te : TE) : Prop :=
  ∀ n σ H (Q : VK), n + k ≤ L → Dr H d c r n → J σ H → (∀ l xs H', Kp d r H H' → Dr H' d c r (n + k) → J σ H' → LV d r G H' l xs → a ≤ xs.length → xs.length ≤ m → Q (.ref l) H') → te σ H Q
/-- values without lists -/
def GVn (K : PySem.W.Frag) (B k W : Nat) (H : Hp) (v : V) : Prop := ∃ x, Da K noL H v x ∧ Sz B k x ∧ wt x ≤ W
/-- what holds whatever a list is made into -/
def StaS (G : Hp → V → Prop) : Prop := ∀ (H : Hp) (D : Addr) (ys zs : List V) (v : V), H D = some (.lst ys) → G H v → G (upd H D (.lst zs)) v
section
variable {K : PySem.W.Frag} {d c r : Addr} {J J' : L2.St → Hp → Prop} {L B k W a m k' a' m' W' B' k1 k2 : Nat} {G G' G0 : Hp → V → Prop} {te te' : TE} {ta : TA}
theorem GVn.mono {H : Hp} {v : V} (h : GVn K B k W H v) (hB : B ≤ B') (hk : k ≤ k') (hW : W ≤ W') : GVn K B' k' W' H v := by
  obtain ⟨x, a, b, z⟩ := h
  exact ⟨x, a, b.mono hB hk, by omega⟩
theorem GVn.same {H H' : Hp} {v : V} (h : GVn K B k W H v) (e : Sm H H') : GVn K B k W H' v := by
  obtain ⟨x, a, b⟩ := h
  exact ⟨x, a.same e, b⟩
theorem GLs.mono (h : GLs d c r J L k a m G te) (hk : k ≤ k') (ha : a' ≤ a) (hm : m ≤ m') (g : ∀ H v, G H v → G' H v) : GLs d c r J L k' a' m' G' te := fun n σ H Q hn D hJ q =>
  h n σ H Q (by omega) D hJ fun l xs H' b e j v l1 l2 => q l xs H' b (e.mono (by omega)) j ⟨v.at_, v.nd, v.nr, fun u hu => g _ _ (v.good u hu)⟩ (by omega) (by omega)
/-- what a comprehension has collected -/
structure CL (d c r : Addr) (H1 : Hp) (D : Addr) (G : Hp → V → Prop) (n k i : Nat) (Hx : Hp) : Prop where
  ex : ∃ xs, Hx D = some (.lst xs) ∧ xs.length = i ∧ ∀ v ∈ xs, G Hx v
  dr : Dr Hx d c r (n + k * i)
  kp : Kp d r H1 Hx
theorem CL.init {H1 : Hp} {D : Addr} {n : Nat} (g : Dr H1 d c r n) (hD : H1 D = none) : CL d c r H1 D G n k 0 (upd H1 D (.lst [])) :=
  ⟨⟨[], upd_same, rfl, fun v hv => by simp at hv⟩, g.new hD, Kp.new hD⟩
theorem CL.step (hG : Sta d c r G) (hS : StaS G) {H1 H4 Hx : Hp} {D : Addr} {n i : Nat} (h : CL d c r H1 D G n k i Hx) (g1 : Dr H1 d c r n) (hD : H1 D = none) (hi : i ≤ 1000) {y : V} (e : Kp d r Hx H4) (g : Dr H4 d c r (n + k * i + k)) (p : G H4 y) :
    ∃ acc, H4 D = some (.lst acc) ∧ acc.length < sizeLine ∧ CL d c r H1 D G n k (i + 1) (upd H4 D (.lst (acc ++ [y]))) := by
  obtain ⟨xs, h1, h2, h3⟩ := h.ex
  have nD := g1.ne hD
  have h1' := e _ _ h1 nD.1 nD.2.2
  refine ⟨xs, h1', lt_line (by omega), ⟨⟨xs ++ [y], upd_same, by rw [List.length_append, h2]; rfl, fun v hv => ?_⟩, ?_, fun b o q q1 q2 => ?_⟩⟩
  · refine hS _ _ _ _ _ h1' ?_
    rcases List.mem_append.mp hv with hv | hv
    · exact hG _ _ _ _ h.dr e (h3 v hv)
    · rw [List.mem_singleton.mp hv]; exact p
  · rw [Nat.mul_succ, ← Nat.add_assoc]
    exact g.upd nD.1 nD.2.1 nD.2.2
  · rw [upd_ne (ne_of_none q hD)]
    exact e b o (h.kp b o q q1 q2) q1 q2
end
end Ml
namespace Ml
open PySem PySem.Spec PyProof.Rows L2
/-! ### parts of trees: data of any kind -/
def mn (l : List Nat) : Nat := l.min?.getD 0
end Ml
namespace Ml
open PySem PySem.Spec PyProof.Rows L2
section
variable {X : Cx}
/-- {elt for t0 in i0 for t1 in i1}, elt an int: D the new set -/
def tSi2 (w : World) (wi : TI) (g : TG) (wi1 : TI) (g1 : TG) (te : TE) (vs vs1 : List Nat) : TE := fun σ H Q => wi σ H fun J H1 => ∀ D, H1 D = none → ∃ W : Nat → Nat → Hp → Prop, (∃ m, W 0 m (upd H1 D (SetO w D (fun _ => false) 0))) ∧ ∀ i m H, W i m H →
  (J.stop i H ∧ Q (.ref D) H) ∨ (J.go i H ∧ ∃ Nx : Hp → Prop, (∀ H', Nx H' → ∃ m', m' < m ∧ W (i + 1) m' H') ∧ ∀ x H', J.yld i H x H' → g x (wipe σ vs) H' fun σ2 H2 => wipe σ2 vs = wipe σ vs ∧
    wi1 σ2 H2 fun J1 H4 => ∃ W1 : Nat → Nat → Hp → Prop, (∃ m, W1 0 m H4) ∧ ∀ j k H, W1 j k H →
      (J1.stop j H ∧ Nx H) ∨ (J1.go j H ∧ ∃ Nx1 : Hp → Prop, (∀ H', Nx1 H' → ∃ k', k' < k ∧ W1 (j + 1) k' H') ∧ ∀ x H', J1.yld j H x H' → g1 x (wipe σ2 vs1) H' fun σ3 H5 => wipe σ3 vs1 = wipe σ2 vs1 ∧
        te σ3 H5 fun y H7 => ∃ (c : Int) (S : Int → Bool) (n : Nat), y = .int c ∧ H7 D = some (SetO w D S n) ∧ n + 1 < scanBound ∧ Nx1 (upd H7 D (SetO w D (fun j => S j || decide (j = c)) (if S c = true then n else n + 1)))))
abbrev InBlk (X : Cx) (scope : Scope) (J : Cx → Prop) : Prop := ∀ (s : Shared) (H : Hp) (C : Addr) (cl : List (PySem.Str × Addr)) (fp : List Addr), J (X.blk s H scope (compEnvC scope cl C X.env) fp)
theorem si2_core {pins : List (Addr × Obj)} {s : Shared} {σ : L2.St} {H : Hp} {Q : VK} {elt t0 i0 t1 i1 : Expr} {scope : Scope} {own : List (PySem.Str × Nat)} {vs1 : List Nat} {pos pos' : Pos} {wi wi1 : TI} {g g1 : TG} {te : TE} {use : Option (Value → Sem Unit)} {Qf : Value → Shared → Prop}
    (calm : X.calm = true) (nod : X.N.Nodup) (I : Inv X pins σ H s) (hi : PI X t0 i0 wi) (ok : BlkOk X.N X.env.scope scope own) (hv : ∀ i ∈ vs1, i ∈ own.map (·.2))
    (hg : InBlk X scope fun Y => PG Y t0 g) (hi1 : InBlk X scope fun Y => PI Y t1 i1 wi1) (hg1 : InBlk X scope fun Y => PG Y t1 g1) (he : InBlk X scope fun Y => PE Y elt te)
    (pl0 : ∀ x, foldedSetIterable i0 X.env x = pure x) (pl1 : ∀ env x, foldedSetIterable i1 env x = pure x) (h : tSi2 X.w wi g wi1 g1 te (own.map (·.2)) vs1 σ H Q)
    (back : ∀ D C z m H', Inv X pins σ H' z → Q (.ref D) H' → z.heap.Ns C m → FpOk X pins H' C → compPost (model X.prog X.w) X.A X.xe use Qf (.ref D) C (.ok .next) z) :
    wpAny (model X.prog X.w) X.A (comprehension (sc2 elt t0 i0 t1 i1 scope pos) scope X.env pos' (newSet (.type "set")) false (eval i0 X.env) use) Qf X.xe s := by
  have frees : ∀ y ∈ scope.names, y.2 = .free → ∃ c, X.env.cells.lookup y.1 = some c := fun y hy e => by
    rcases ok.free y hy e with k | k
    · exact I.ok.has _ (.inl k)
    · exact I.ok.has _ (.inr k)
  refine wpAny_comprehension_free (use := use) rfl pl0 (closure_ok frees) ok.kind (fun y hy e => by rw [ok.uniq y hy, e]) (thn (hi.run pins s σ H _ I h) fun xv z1 hx => thn hx fun itv z2 h2 => ?_)
  obtain ⟨it, fp, tn, J, H2, rfl, I2, T, st2, f2, q⟩ := h2
  refine PpSet.newSet_ok (newEnv_comp ?_)
  generalize hD : z2.heap.objs.size = D
  have hDn : H2 D = none := I2.hok.fresh (Nat.le_of_eq hD)
  obtain ⟨W, ⟨m0, w0⟩, turn⟩ := q D hDn
  generalize hz3 : ({ z2 with heap := z2.heap.push (emptyS X.w) } : Shared) = z3
  have I3 : Inv X pins σ (upd H2 D (SetO X.w D (fun _ => false) 0)) z3 := by
    rw [← hz3]
    refine I2.laid (t' := z2.toks) (fun b o e => Heap.get?_push_of_some _ e) (Nat.le_of_eq hD) ?_
    rw [← hD]
    exact setO_new (setR_fresh X.w)
  have h3 : z3.heap = z2.heap.push (emptyS X.w) := by rw [← hz3]
  have f3 : ∀ b ∈ fp, FpOk X pins (upd H2 D (SetO X.w D (fun _ => false) 0)) b ∧ b < z3.heap.objs.size := fun b hb => by
    obtain ⟨o, e, _⟩ := T.obj _ _ st2 b hb
    have lt := Heap.lt_size e
    refine ⟨⟨?_, (f2 b hb).2⟩, by rw [h3, Heap.size_push]; exact Nat.lt_succ_of_lt lt⟩
    rw [upd_ne (by rw [← hD]; exact Nat.ne_of_lt lt)]
    exact (f2 b hb).1
  have st3 : tn 0 z3.heap := T.keep _ _ _ st2 fun b _ o e => by rw [h3]; exact Heap.get?_push_of_some _ e
  have I4 := block_start I3 ok nod f3
  generalize hcl : cellsFrom (z3.heap.objs.size + 1) scope.names (cloFrom X.env.cells scope.names []) = cl at I4
  have pg := hg z3 (upd H2 D (SetO X.w D (fun _ => false) 0)) z3.heap.objs.size cl fp
  have pe := he z3 (upd H2 D (SetO X.w D (fun _ => false) 0)) z3.heap.objs.size cl fp
  have pi1 := hi1 z3 (upd H2 D (SetO X.w D (fun _ => false) 0)) z3.heap.objs.size cl fp
  have pg1 := hg1 z3 (upd H2 D (SetO X.w D (fun _ => false) 0)) z3.heap.objs.size cl fp
  have goal : codeAny (model X.prog X.w) X.A (.compStart (sc2 elt t0 i0 t1 i1 scope pos) 0 (.ref it) (.ref D) (compEnvC scope cl z3.heap.objs.size X.env)) (compPost (model X.prog X.w) X.A X.xe use Qf (.ref D) z3.heap.objs.size) { z3 with heap := pushCells (z3.heap.push { cls := .type "dict", data := .dict #[] }) scope.names } := by
    have nfp : ∀ b ∈ fp, (upd H2 D (SetO X.w D (fun _ => false) 0)) b = none := fun b hb => (f3 b hb).1.1
    generalize hce : compEnvC scope cl z3.heap.objs.size X.env = ce at I4 pg pe pi1 pg1 ⊢
    have cL : ce.locals = z3.heap.objs.size := by subst hce; rfl
    generalize hH3 : upd H2 D (SetO X.w D (fun _ => false) 0) = H3 at I3 I4 pg pe pi1 pg1 w0 nfp f3
    generalize hz4 : ({ z3 with heap := pushCells (z3.heap.push { cls := .type "dict", data := .dict #[] }) scope.names } : Shared) = z4 at I4 ⊢
    have st4 : tn 0 z4.heap := T.keep _ _ _ st3 fun b _ o e => by rw [← hz4]; exact pushCells_keeps _ _ _ _ (Heap.get?_push_of_some _ e)
    have stat : ∀ {σ' : L2.St} {H' : Hp} {z : Shared}, Inv (X.blk z3 H3 scope ce fp) [] σ' H' z → (∀ b ∈ fp, H' b = none) → ∀ b ∈ fp, FpOk (X.blk z3 H3 scope ce fp) [] H' b := fun {σ' H' z} J' hn b hb =>
      ⟨hn b hb, (J'.ok.exf b hb).1, J'.ok.exfs b hb, .inl hb, fun x c e => (J'.ok.exf b hb).2 x c e, fun p hp => absurd (show p ∈ ([] : List (Addr × Obj)) ++ [] from hp) List.not_mem_nil⟩
    have loop : codeAny (model X.prog X.w) X.A (.compLoop (sc2 elt t0 i0 t1 i1 scope pos) 0 (.ref it) (.ref D) ce) (compPost (model X.prog X.w) X.A X.xe use Qf (.ref D) z3.heap.objs.size) z4 := by
      refine sc2_loop0 (pl1 ce) (fun n z => ∃ i H', Inv (X.blk z3 H3 scope ce fp) [] (wipe σ (own.map (·.2))) H' z ∧ tn i z.heap ∧ (∀ b ∈ fp, H' b = none) ∧ W i n H') ?_ m0 ⟨0, H3, I4, st4, nfp, w0⟩
      rintro n z5 ⟨i, H5, I5, st5, n5, w5⟩
      rcases turn i n H5 w5 with ⟨stop, qq⟩ | ⟨go, Nx, hNx, step⟩
      · refine thnF (T.done (X.blk z3 H3 scope ce fp) rfl rfl rfl calm i [] z5 _ H5 (fun _ _ => False) I5 (stat I5 n5) st5 stop) fun r z6 ⟨hr, I6⟩ => ?_
        subst hr
        have I7 : Inv X pins σ H5 z6 := I3.call' (ch := fp) I6.os I6.base I6.hok I6.bare fun b hb => ⟨(f3 b hb).1.2.2.2.1, (f3 b hb).1.2.1, (f3 b hb).1.2.2.2.2.1, (f3 b hb).1.2.2.2.2.2⟩
        have nC : H5 z3.heap.objs.size = none := by
          have e : H5 ce.locals = none := I6.free
          rwa [cL] at e
        obtain ⟨m, hn, _⟩ := I6.loc
        have hn : z6.heap.Ns ce.locals m := hn
        rw [cL] at hn
        exact back D z3.heap.objs.size z6 m H5 I7 qq hn (I3.fpOk (Nat.le_refl _) nC)
      · refine thnF (T.item (X.blk z3 H3 scope ce fp) rfl rfl rfl calm i [] z5 _ H5 (fun _ _ => False) I5 (stat I5 n5) st5 go) fun r z6 ⟨u, hr, h6⟩ => ?_
        subst hr
        refine thnF h6 fun _ z7 ⟨x, H7, I7, r7, y7, st7, n7⟩ => ?_
        have I7' := I7.pinned (stat I7 n7) (T.obj _ _ st7)
        refine thnF (pg.run _ z7 _ H7 x u _ I7' r7 (step x H7 y7)) fun _ z8 ⟨σ8, H8, I8, hw8, q8⟩ => ?_
        have fin : ∀ {σ9 : L2.St} {z : Shared} {H' : Hp}, Inv (X.blk z3 H3 scope ce fp) ([] ++ pinsAt fp z7.heap) σ9 H' z → (wipe σ (own.map (·.2))).length = σ9.length → (∀ (j : Nat) v, (wipe σ (own.map (·.2)))[j]? = some (some v) → σ9[j]? = some (some v)) → Nx H' →
            ∃ m, m < n ∧ ∃ i H', Inv (X.blk z3 H3 scope ce fp) [] (wipe σ (own.map (·.2))) H' z ∧ tn i z.heap ∧ (∀ b ∈ fp, H' b = none) ∧ W i m H' := fun {σ9 z H'} J' hl hk nx => by
          obtain ⟨m', hm, w'⟩ := hNx H' nx
          have pin : ∀ b ∈ fp, ∀ o, z7.heap.get? b = some o → z.heap.get? b = some o ∧ H' b = none := fun b hb o e => by
            have p := J'.pin (b, o) (List.mem_append_right _ (List.mem_append_right _ (mem_pinsAt hb e)))
            exact ⟨p.1, p.2.1⟩
          refine ⟨m', hm, i + 1, H', (J'.unpinned (pins := [])).weak hl hk, T.keep _ _ _ st7 fun b hb o e => (pin b hb o e).1, fun b hb => ?_, w'⟩
          obtain ⟨o, e, _⟩ := T.obj _ _ st7 b hb
          exact (pin b hb o e).2
        have hl8 : (wipe σ (own.map (·.2))).length = σ8.length := by rw [← hw8, wipe_length]
        have hk9 : ∀ (j : Nat) v, (wipe σ (own.map (·.2)))[j]? = some (some v) → (wipe σ8 vs1)[j]? = some (some v) := fun j v e => by
          rw [← hw8] at e
          obtain ⟨e1, e2⟩ := wipe_some e
          rw [wipe_out fun z => e2 (hv j z)]
          exact e1
        refine thnF (pi1.run _ z8 σ8 H8 _ I8 q8) fun xv z10 hx => thnF hx fun itv z11 h11 => ?_
        obtain ⟨it1, fp1, tn1, J1, H11, rfl, I11, T1, st11, f11, W1, ⟨m1, w1⟩, turn1⟩ := h11
        have stat1 : ∀ {H' : Hp}, (∀ b ∈ fp1, H' b = none) → ∀ b ∈ fp1, FpOk (X.blk z3 H3 scope ce fp) ([] ++ pinsAt fp z7.heap) H' b := fun hn b hb => ⟨hn b hb, (f11 b hb).2⟩
        have loop1 : codeAny (model X.prog X.w) X.A (.compLoop (sc2 elt t0 i0 t1 i1 scope pos) 1 (.ref it1) (.ref D) ce)
            (fun r z => match r with
              | .ok _ => ∃ m, m < n ∧ ∃ i H', Inv (X.blk z3 H3 scope ce fp) [] (wipe σ (own.map (·.2))) H' z ∧ tn i z.heap ∧ (∀ b ∈ fp, H' b = none) ∧ W i m H'
              | .error _ => False) z11 := by
          refine sc2_loop1 (fun k z => ∃ j H', Inv (X.blk z3 H3 scope ce fp) ([] ++ pinsAt fp z7.heap) (wipe σ8 vs1) H' z ∧ tn1 j z.heap ∧ (∀ b ∈ fp1, H' b = none) ∧ W1 j k H') ?_ m1 ⟨0, H11, I11.weak (wipe_length _ _) (fun j v e => (wipe_some e).1), st11, fun b hb => (f11 b hb).1, w1⟩
          rintro k z12 ⟨j, H12, I12, st12, n12, w12⟩
          rcases turn1 j k H12 w12 with ⟨stop1, nx1⟩ | ⟨go1, Nx1, hNx1, step1⟩
          · refine thnF (T1.done (X.blk z3 H3 scope ce fp) rfl rfl rfl calm j _ z12 (wipe σ8 vs1) H12 (fun _ _ => False) I12 (stat1 n12) st12 stop1) fun r z13 ⟨hr, I13⟩ => ?_
            subst hr
            exact fin I13 (hl8.trans (wipe_length σ8 vs1).symm) hk9 nx1
          · refine thnF (T1.item (X.blk z3 H3 scope ce fp) rfl rfl rfl calm j _ z12 (wipe σ8 vs1) H12 (fun _ _ => False) I12 (stat1 n12) st12 go1) fun r z13 ⟨u1, hr, h13⟩ => ?_
            subst hr
            refine thnF h13 fun _ z14 ⟨x1, H14, I14, r14, y14, st14, n14⟩ => ?_
            have I14' := I14.pinned (stat1 n14) (T1.obj _ _ st14)
            refine thnF (pg1.run _ z14 (wipe σ8 vs1) H14 x1 u1 _ I14' r14 (step1 x1 H14 y14)) fun _ z15 ⟨σ15, H15, I15, hw15, q15⟩ => ?_
            refine thnF (pe.run _ z15 σ15 H15 _ I15 q15) fun zv z17 ⟨yv, H17, I17, r17, c, S0, n0, ey, hD17, room, nx⟩ => ?_
            subst ey
            obtain ⟨tk, rfl⟩ := r17
            refine put_int (X := X.blk z3 H3 scope ce fp) I17 hD17 room fun z18 I18 => ?_
            obtain ⟨m', hm, w'⟩ := hNx1 _ nx
            have pin : ∀ b ∈ fp1, ∀ o, z14.heap.get? b = some o → z18.heap.get? b = some o ∧ _ := fun b hb o e => by
              have p := I18.pin (b, o) (List.mem_append_right _ (List.mem_append_right _ (mem_pinsAt hb e)))
              exact ⟨p.1, p.2.1⟩
            refine ⟨m', hm, j + 1, _, I18.unpinned.weak (by rw [← hw15, wipe_length]) (fun j v e => by rw [← hw15] at e; exact (wipe_some e).1), T1.keep _ _ _ st14 fun b hb o e => (pin b hb o e).1, fun b hb => ?_, w'⟩
            obtain ⟨o, e, _⟩ := T1.obj _ _ st14 b hb
            exact (pin b hb o e).2
        exact sc2_start1 loop1 (T1.self X.A 0 _ _ _ st11 loop1)
    exact PpSet.codeAny_compStart_set loop (T.self X.A 0 _ _ _ st4 loop)
  subst hcl
  exact goal
theorem pe_si2 {elt t0 i0 t1 i1 : Expr} {scope : Scope} {own : List (PySem.Str × Nat)} {vs1 : List Nat} {pos : Pos} {wi wi1 : TI} {g g1 : TG} {te : TE} (calm : X.calm = true) (nod : X.N.Nodup) (hi : PI X t0 i0 wi) (ok : BlkOk X.N X.env.scope scope own) (hv : ∀ i ∈ vs1, i ∈ own.map (·.2))
    (hg : ∀ (s : Shared) (H : Hp) (C : Addr) (cl : List (PySem.Str × Addr)) (fp : List Addr), PG (X.blk s H scope (compEnvC scope cl C X.env) fp) t0 g) (hi1 : ∀ (s : Shared) (H : Hp) (C : Addr) (cl : List (PySem.Str × Addr)) (fp : List Addr), PI (X.blk s H scope (compEnvC scope cl C X.env) fp) t1 i1 wi1) (hg1 : ∀ (s : Shared) (H : Hp) (C : Addr) (cl : List (PySem.Str × Addr)) (fp : List Addr), PG (X.blk s H scope (compEnvC scope cl C X.env) fp) t1 g1) (he : ∀ (s : Shared) (H : Hp) (C : Addr) (cl : List (PySem.Str × Addr)) (fp : List Addr), PE (X.blk s H scope (compEnvC scope cl C X.env) fp) elt te)
    (pl0 : ∀ x, foldedSetIterable i0 X.env x = pure x := by intro _; rfl) (pl1 : ∀ env x, foldedSetIterable i1 env x = pure x := by intro _ _; rfl) :
    PE X (.SetComp elt [⟨t0, i0, [], 0⟩, ⟨t1, i1, [], 0⟩] scope pos) (tSi2 X.w wi g wi1 g1 te (own.map (·.2)) vs1) := by
  refine ⟨fun pins s σ H Q I h => ?_⟩
  rw [PpSet.eval_SetComp]
  refine si2_core calm nod I hi ok hv hg hi1 hg1 he pl0 pl1 h fun D C z m H' I' q hn f => ⟨m, hn, fun _ sb => ?_⟩
  obtain ⟨f0, f1, f2, f3, f4, f5⟩ := f
  exact ⟨.ref D, H', I'.turned (t' := z.toks) (fun b o hb e => (sb.2 b hb).trans e) f0 f1 f3 f4 f5, rfl, q⟩
end
end Ml
namespace Ml
open PySem PySem.Spec PyProof.Rows L2
/-! ### sets of tuples of whole numbers, of any lengths -/
section
variable {P : Program} {w : World} {A : Around} {E : Value → Shared → Prop} {s : Shared} {a : Addr} {L : List (Addr × List Int)} {es : Array (Int × Value)} {ep : Nat} {t : SetTable}
theorem add_tup {x : Addr} {k : List Int} {Q : Value → Shared → Prop} (R : SetTR P w s.heap a L es ep t) (hx : IsT P w s.heap k x) (hu : A.units + 64 < cLine) (few : L.length + 1 < 64)
    (fin : ∀ g L' es' ep' t' tk, Heap.SameBut a s.heap g → SetTR P w g a L' es' ep' t' → (k ∈ L.map (·.2) → L' = L) → (k ∉ L.map (·.2) → L'.Perm ((x, k) :: L)) → Q .none { s with heap := g, toks := tk }) :
    wpAny (model P w) A (call (.builtin "set.add") [.ref a, .ref x]) Q E s := by
  obtain ⟨o, ho, ex, hd⟩ := R.ob
  refine wpAny_call_entry F.slot_set_add ⟨o, ho, ex.1⟩ F.entry_set_add ?_ (F.args_set_add_2 _ _)
  unfold Builtin.«set.add» Builtin.Frozenset.oneOther
  simp only [List.isEmpty_nil, bind_assoc]
  unfold Builtin.Frozenset.addrOf setAdd
  refine wpAny_bind (wpAny_pure ?_)
  try dsimp only
  refine wpAny_bind (wpAny_pure ?_)
  try dsimp only
  refine wpAny_bind (wpAny_holding (wpAny_bind (wpAny_pyHash_tuple (show A.units + 1 < cLine by omega) hx ?_)))
  refine add_at (s := { s with toks := s.toks + (k.length + 1) }) R hx (show A.units + 1 < cLine by omega) few fun b g L' es' ep' t' sb r c1 c2 => ?_
  show wpAny _ _ (ret Value.none) _ _ _
  exact wpAny_pure ⟨_, rfl, fin g L' es' ep' t' _ sb r c1 c2⟩
/-- sorted(set): the tuples, none of them empty, in the order of tuples -/
theorem sort_setU {Q : Value → Shared → Prop} (R : SetTR P w s.heap a L es ep t) (calm : A.handled = none) (hu : A.units + 64 < cLine) (hne : ∀ p ∈ L, p.2 ≠ [])
    (fin : ∀ z p (out : List Value) (c : Nat) (L' : List (Addr × List Int)), (∀ b o, s.heap.get? b = some o → z.heap.get? b = some o) → z.gens = s.gens → z.os = s.os → s.heap.objs.size ≤ p →
      z.heap.get? p = some (seqObj "list" out.toArray c) → out = L'.map (fun q => Value.ref q.1) → L'.Perm L → L'.Pairwise (fun q r => PySem.W.dataLt (rowD r.2) (rowD q.2) = false) → Q (.ref p) z) :
    wpAny (model P w) A (call (.builtin "sorted") [.ref a]) Q E s := by
  obtain ⟨o, ho, ex, hd⟩ := R.ob
  have size := R.size
  have few := R.few
  refine Calls.call_function_entry kind_sorted plain_sorted entry_sorted (args_sorted1 _) ?_
  unfold Builtin.«sorted»
  refine wpAny_bind (m := checkCount "sorted" 1 1 _) (wpAny_pure ?_)
  refine wpAny_bind (collect_set (A := A.in1) calm ⟨o, ho, ex.1, hd⟩ R.fits (by unfold scanBound; omega) R.tab.ris R.led fun z1 vs keep le gens os perm => ?_)
  have rows : es.toList.map (·.2) = L.map fun q => Value.ref q.1 := by
    rw [R.rows]
    unfold rowsOf
    rw [List.map_map]
    rfl
  rw [rows] at perm
  obtain ⟨L1, pL, eL⟩ : ∃ L1 : List (Addr × List Int), L1.Perm L ∧ vs = L1.map fun q => Value.ref q.1 := by
    have key : ∀ (ys zs : List Value), ys.Perm zs → ∀ M : List (Addr × List Int), zs = M.map (fun q => Value.ref q.1) → ∃ L1 : List (Addr × List Int), L1.Perm M ∧ ys = L1.map fun q => Value.ref q.1 := by
      intro ys zs p
      induction p with
      | nil =>
        intro M e
        exact ⟨M, List.Perm.refl _, e⟩
      | @cons v l1 l2 _ ih =>
        intro M e
        cases M with
        | nil => cases e
        | cons m M =>
          obtain ⟨e1, e2⟩ := List.cons.inj e
          obtain ⟨L1, h1, h2⟩ := ih M e2
          exact ⟨m :: L1, h1.cons m, by rw [List.map_cons, h2, e1]⟩
      | swap v1 v2 l =>
        intro M e
        cases M with
        | nil => cases e
        | cons m1 M =>
          obtain ⟨e1, e2⟩ := List.cons.inj e
          cases M with
          | nil => cases e2
          | cons m2 M =>
            obtain ⟨e3, e4⟩ := List.cons.inj e2
            exact ⟨m2 :: m1 :: M, List.Perm.swap m1 m2 M, by rw [List.map_cons, List.map_cons, e1, e3, e4]⟩
      | trans _ _ ih1 ih2 =>
        intro M e
        obtain ⟨L2', h1, h2⟩ := ih2 M e
        obtain ⟨L1, h3, h4⟩ := ih1 L2' h2
        exact ⟨L1, h3.trans h1, h4⟩
    exact key _ _ perm L rfl
  have lv : vs.length = L.length := by rw [eL, List.length_map, pL.length_eq]
  have small : vs.length ≤ sizeLine := by rw [lv, sizeLine_eq]; omega
  refine wpAny_bind (wpAny_newList ?_ small)
  have there : (z1.heap.push (seqObj "list" vs.toArray 0)).get? z1.heap.objs.size = some (seqObj "list" vs.toArray 0) := Heap.get?_push_size _ rfl
  have old : ∀ b u, s.heap.get? b = some u → (z1.heap.push (seqObj "list" vs.toArray 0)).get? b = some u := fun b u e => Heap.get?_push_of_some _ (keep b u e)
  have eachR : ∀ M : List (Addr × List Int), PySem.W.EachIs (fun v (p : Addr × List Int) => v = Value.ref p.1) (M.map fun q => Value.ref q.1) M := fun M => by
    induction M with
    | nil => exact .nil
    | cons m M ih => exact .cons rfl ih
  have eachD : ∀ M : List (Addr × List Int), (∀ p ∈ M, p ∈ L) → PySem.W.EachIs (fun v (p : Addr × List Int) => ∃ as, Reads (z1.heap.push (seqObj "list" vs.toArray 0)) v (rowD p.2) as ∧ z1.heap.objs.size ∉ as) (M.map fun q => Value.ref q.1) M := fun M => by
    induction M with
    | nil => intro _; exact .nil
    | cons m M ih =>
      intro hM
      refine .cons ?_ (ih fun p hp => hM p (List.mem_cons_of_mem _ hp))
      obtain ⟨om, items, n, hom, hcl, hdat, hit⟩ := R.tup m (hM m List.mem_cons_self)
      have q := old _ _ hom
      exact ⟨[], .tuple q hcl hdat ((ints_of_items hit).reads _), by simp⟩
  have inL : ∀ p ∈ L1, p ∈ L := fun p hp => pL.mem_iff.mp hp
  have er := eachD L1 inL
  have e0 := eachR L1
  rw [← eL] at er e0
  refine wpAny_bind (wpAny_holding (PySem.W.list_sort_data (s := { z1 with heap := z1.heap.push (seqObj "list" vs.toArray 0) }) (enc := fun p : Addr × List Int => rowD p.2) there e0 er (fun d hd d' hd' => ?_) (.inl fun d hd => ?_) (by rw [pL.length_eq, sizeLine_eq]; omega) (fun p hp => ?_) fun out hlen hout => ?_))
  · obtain ⟨p, _, rfl⟩ := List.mem_map.mp hd
    obtain ⟨p', _, rfl⟩ := List.mem_map.mp hd'
    unfold rowD
    simp only [PySem.W.alike]
    exact alike_ints _ _
  · obtain ⟨p, hp, rfl⟩ := List.mem_map.mp hd
    have := hne p (inL p hp)
    cases e : p.2 with
    | nil => exact absurd e this
    | cons x r => exact ⟨.int x, r.map PyData.int, rfl⟩
  · have hd1 : (rowD p.2).depth = 1 := by
      unfold rowD
      simp only [PyData.depth, dep_ints]
    show A.units + 1 + 1 + (rowD p.2).depth < cLine
    omega
  · obtain ⟨L', hL'⟩ : ∃ L', L' = L1.mergeSort (PySem.W.dataLe false fun p : Addr × List Int => rowD p.2) := ⟨_, rfl⟩
    rw [← hL'] at hout
    have pp : L'.Perm L1 := by rw [hL']; exact List.mergeSort_perm _ _
    have tot := PySem.W.sortLe_total (PyProof.Rows.listOrd PyProof.Rows.itemOrd) false fun p : Addr × List Int => PySem.W.keyToks (rowD p.2)
    have srt : L'.Pairwise fun q r => (PySem.W.dataLe false (fun p : Addr × List Int => rowD p.2) q r) = true := by
      rw [hL']
      exact List.pairwise_mergeSort (fun a b c => tot.trans a b c) (fun a b => by
        rcases tot.total a b with h | h
        · exact Bool.or_eq_true_iff.mpr (.inl h)
        · exact Bool.or_eq_true_iff.mpr (.inr h)) L1
    have eo : ∀ (xs : List Value) (M : List (Addr × List Int)), PySem.W.EachIs (fun v (p : Addr × List Int) => v = Value.ref p.1) xs M → xs = M.map fun q => Value.ref q.1 := by
      intro xs M h
      induction h with
      | nil => rfl
      | cons h1 _ ih => rw [List.map_cons, h1, ih]
    obtain ⟨c, hc⟩ := sortedHeap_at (vs := vs) (out := out.toArray) there
    refine wpAny_pure ⟨_, rfl, fin _ z1.heap.objs.size out c L' (fun b u e => ?_) gens os le hc (eo _ _ hout) (pp.trans pL) (srt.imp fun {q r} h => ?_)⟩
    · have q := keep b u e
      have lt := Heap.lt_size q
      show (sortedHeap (z1.heap.push (seqObj "list" vs.toArray 0)) z1.heap.objs.size vs out.toArray).get? b = some u
      rw [sortedHeap_old (Nat.ne_of_lt lt) (by rw [size_push']; exact Nat.lt_succ_of_lt lt)]
      exact Heap.get?_push_of_some _ q
    · have h' : (!PySem.W.dataLt (rowD r.2) (rowD q.2)) = true := h
      cases e : PySem.W.dataLt (rowD r.2) (rowD q.2) with
      | false => rfl
      | true => rw [e] at h'; cases h'
end
end Ml
namespace Ml
open PySem PySem.Spec PyProof.Rows L2
section
variable {X : Cx}
/-- one more tuple into the set at D -/
def AddT (K : PySem.W.Frag) (P : Program) (w : World) (D : Addr) (y : V) (H : Hp) (Nx : Hp → Prop) : Prop := ∃ (x : Addr) (k : List Int) (L : List (Addr × List Int)), y = .ref x ∧ SqT K H x (k.map V.int) ∧ H D = some (SetTO P w D L) ∧ (∀ p ∈ L, SqT K H p.1 (p.2.map V.int)) ∧ L.length + 1 < 64 ∧
  ∀ L' : List (Addr × List Int), (k ∈ L.map (·.2) → L' = L) → (k ∉ L.map (·.2) → L'.Perm ((x, k) :: L)) → Nx (upd H D (SetTO P w D L'))
theorem put_tup {pins : List (Addr × Obj)} {σ : L2.St} {H : Hp} {s : Shared} {E : Value → Shared → Prop} {D : Addr} {y : V} {u : Value} {Nx : Hp → Prop} {Q : Value → Shared → Prop} (I : Inv X pins σ H s) (hu : X.A.units + 64 < cLine) (r : RelV y u) (h : AddT X.K X.prog X.w D y H Nx)
    (fin : ∀ z H', Inv X pins σ H' z → Nx H' → Q .none z) : wpAny (model X.prog X.w) X.A (call (.builtin "set.add") [.ref D, u]) Q E s := by
  obtain ⟨x, k, L, rfl, hx, hD, hL, few, nx⟩ := h
  cases (show u = Value.ref x from r)
  have R0 : SetT0 X.prog X.w s.heap D L := (I.hok D _ hD).1
  obtain ⟨es, ep, t, R⟩ := R0.full fun p hp => I.isT (hL p hp)
  refine add_tup R (I.isT hx) hu few fun g L' es' ep' t' tk sb R' c1 c2 => ?_
  obtain ⟨o, ho, _⟩ := R'.ob
  exact fin _ _ (I.write (e := D) (t' := tk) (by rw [hD]; trivial) (.inl rfl) (fun b v hb hv => (sb.2 b hb).trans hv) ⟨o, ho⟩ (setTO_new R'.t0)) (nx L' c1 c2)
/-- {elt for t0 in i0 if ..}, elt a tuple of ints: D the new set -/
def tSt (K : PySem.W.Frag) (P : Program) (w : World) (wi : TI) (g : TG) (tt : L2.TT) (te : TE) (vs : List Nat) : TE := fun σ H Q => wi σ H fun J H1 => ∀ D, H1 D = none → ∃ W : Nat → Nat → Hp → Prop, (∃ m, W 0 m (upd H1 D (SetTO P w D []))) ∧ ∀ i m H, W i m H →
  (J.stop i H ∧ Q (.ref D) H) ∨ (J.go i H ∧ ∃ Nx : Hp → Prop, (∀ H', Nx H' → ∃ m', m' < m ∧ W (i + 1) m' H') ∧ ∀ x H', J.yld i H x H' → g x (wipe σ vs) H' fun σ2 H2 => wipe σ2 vs = wipe σ vs ∧ tt σ2 H2 fun b H3 =>
    if b = true then te σ2 H3 fun y H4 => AddT K P w D y H4 Nx else Nx H3)
theorem st_core {pins : List (Addr × Obj)} {s : Shared} {σ : L2.St} {H : Hp} {Q : VK} {elt t0 i0 : Expr} {ifs : List Expr} {scope : Scope} {own : List (PySem.Str × Nat)} {pos pos' : Pos} {wi : TI} {g : TG} {tt : L2.TT} {te : TE} {use : Option (Value → Sem Unit)} {Qf : Value → Shared → Prop}
    (calm : X.calm = true) (hu : X.A.units + 64 < cLine) (nod : X.N.Nodup) (I : Inv X pins σ H s) (hi : PI X t0 i0 wi) (ok : BlkOk X.N X.env.scope scope own)
    (hg : InBlk X scope fun Y => PG Y t0 g) (ht : InBlk X scope fun Y => PTs Y ifs tt) (he : InBlk X scope fun Y => PE Y elt te)
    (pl0 : ∀ x, foldedSetIterable i0 X.env x = pure x) (h : tSt X.K X.prog X.w wi g tt te (own.map (·.2)) σ H Q)
    (back : ∀ D C z m H', Inv X pins σ H' z → Q (.ref D) H' → z.heap.Ns C m → FpOk X pins H' C → compPost (model X.prog X.w) X.A X.xe use Qf (.ref D) C (.ok .next) z) :
    wpAny (model X.prog X.w) X.A (comprehension (.SetComp elt [⟨t0, i0, ifs, 0⟩] scope pos) scope X.env pos' (newSet (.type "set")) false (eval i0 X.env) use) Qf X.xe s := by
  have frees : ∀ y ∈ scope.names, y.2 = .free → ∃ c, X.env.cells.lookup y.1 = some c := fun y hy e => by
    rcases ok.free y hy e with k | k
    · exact I.ok.has _ (.inl k)
    · exact I.ok.has _ (.inr k)
  refine wpAny_comprehension_free (use := use) rfl pl0 (closure_ok frees) ok.kind (fun y hy e => by rw [ok.uniq y hy, e]) (thn (hi.run pins s σ H _ I h) fun xv z1 hx => thn hx fun itv z2 h2 => ?_)
  obtain ⟨it, fp, tn, J, H2, rfl, I2, T, st2, f2, q⟩ := h2
  refine PpSet.newSet_ok (newEnv_comp ?_)
  generalize hD : z2.heap.objs.size = D
  have hDn : H2 D = none := I2.hok.fresh (Nat.le_of_eq hD)
  obtain ⟨W, ⟨m0, w0⟩, turn⟩ := q D hDn
  generalize hz3 : ({ z2 with heap := z2.heap.push (emptyS X.w) } : Shared) = z3
  have I3 : Inv X pins σ (upd H2 D (SetTO X.prog X.w D [])) z3 := by
    rw [← hz3]
    refine I2.laid (t' := z2.toks) (fun b o e => Heap.get?_push_of_some _ e) (Nat.le_of_eq hD) ?_
    rw [← hD]
    exact setTO_new (setTR_fresh (P := X.prog) (w := X.w) (Heap.get?_push_size _ rfl)).t0
  have h3 : z3.heap = z2.heap.push (emptyS X.w) := by rw [← hz3]
  have f3 : ∀ b ∈ fp, FpOk X pins (upd H2 D (SetTO X.prog X.w D [])) b ∧ b < z3.heap.objs.size := fun b hb => by
    obtain ⟨o, e, _⟩ := T.obj _ _ st2 b hb
    have lt := Heap.lt_size e
    refine ⟨⟨?_, (f2 b hb).2⟩, by rw [h3, Heap.size_push]; exact Nat.lt_succ_of_lt lt⟩
    rw [upd_ne (by rw [← hD]; exact Nat.ne_of_lt lt)]
    exact (f2 b hb).1
  have st3 : tn 0 z3.heap := T.keep _ _ _ st2 fun b _ o e => by rw [h3]; exact Heap.get?_push_of_some _ e
  have I4 := block_start I3 ok nod f3
  generalize hcl : cellsFrom (z3.heap.objs.size + 1) scope.names (cloFrom X.env.cells scope.names []) = cl at I4
  have pg := hg z3 (upd H2 D (SetTO X.prog X.w D [])) z3.heap.objs.size cl fp
  have pt := ht z3 (upd H2 D (SetTO X.prog X.w D [])) z3.heap.objs.size cl fp
  have pe := he z3 (upd H2 D (SetTO X.prog X.w D [])) z3.heap.objs.size cl fp
  have goal : codeAny (model X.prog X.w) X.A (.compStart (.SetComp elt [⟨t0, i0, ifs, 0⟩] scope pos) 0 (.ref it) (.ref D) (compEnvC scope cl z3.heap.objs.size X.env)) (compPost (model X.prog X.w) X.A X.xe use Qf (.ref D) z3.heap.objs.size) { z3 with heap := pushCells (z3.heap.push { cls := .type "dict", data := .dict #[] }) scope.names } := by
    have nfp : ∀ b ∈ fp, (upd H2 D (SetTO X.prog X.w D [])) b = none := fun b hb => (f3 b hb).1.1
    generalize hce : compEnvC scope cl z3.heap.objs.size X.env = ce at I4 pg pt pe ⊢
    have cL : ce.locals = z3.heap.objs.size := by subst hce; rfl
    generalize hH3 : upd H2 D (SetTO X.prog X.w D []) = H3 at I3 I4 pg pt pe w0 nfp f3
    generalize hz4 : ({ z3 with heap := pushCells (z3.heap.push { cls := .type "dict", data := .dict #[] }) scope.names } : Shared) = z4 at I4 ⊢
    have st4 : tn 0 z4.heap := T.keep _ _ _ st3 fun b _ o e => by rw [← hz4]; exact pushCells_keeps _ _ _ _ (Heap.get?_push_of_some _ e)
    have stat : ∀ {σ' : L2.St} {H' : Hp} {z : Shared}, Inv (X.blk z3 H3 scope ce fp) [] σ' H' z → (∀ b ∈ fp, H' b = none) → ∀ b ∈ fp, FpOk (X.blk z3 H3 scope ce fp) [] H' b := fun {σ' H' z} J' hn b hb =>
      ⟨hn b hb, (J'.ok.exf b hb).1, J'.ok.exfs b hb, .inl hb, fun x c e => (J'.ok.exf b hb).2 x c e, fun p hp => absurd (show p ∈ ([] : List (Addr × Obj)) ++ [] from hp) List.not_mem_nil⟩
    have loop : codeAny (model X.prog X.w) X.A (.compLoop (.SetComp elt [⟨t0, i0, ifs, 0⟩] scope pos) 0 (.ref it) (.ref D) ce) (compPost (model X.prog X.w) X.A X.xe use Qf (.ref D) z3.heap.objs.size) z4 := by
      refine PpSet.compLoopS_any (fun n z => ∃ i H', Inv (X.blk z3 H3 scope ce fp) [] (wipe σ (own.map (·.2))) H' z ∧ tn i z.heap ∧ (∀ b ∈ fp, H' b = none) ∧ W i n H') ?_ m0 ⟨0, H3, I4, st4, nfp, w0⟩
      rintro n z5 ⟨i, H5, I5, st5, n5, w5⟩
      rcases turn i n H5 w5 with ⟨stop, qq⟩ | ⟨go, Nx, hNx, step⟩
      · refine thnF (T.done (X.blk z3 H3 scope ce fp) rfl rfl rfl calm i [] z5 _ H5 (fun _ _ => False) I5 (stat I5 n5) st5 stop) fun r z6 ⟨hr, I6⟩ => ?_
        subst hr
        have I7 : Inv X pins σ H5 z6 := I3.call' (ch := fp) I6.os I6.base I6.hok I6.bare fun b hb => ⟨(f3 b hb).1.2.2.2.1, (f3 b hb).1.2.1, (f3 b hb).1.2.2.2.2.1, (f3 b hb).1.2.2.2.2.2⟩
        have nC : H5 z3.heap.objs.size = none := by
          have e : H5 ce.locals = none := I6.free
          rwa [cL] at e
        obtain ⟨m, hn, _⟩ := I6.loc
        have hn : z6.heap.Ns ce.locals m := hn
        rw [cL] at hn
        exact back D z3.heap.objs.size z6 m H5 I7 qq hn (I3.fpOk (Nat.le_refl _) nC)
      · refine thnF (T.item (X.blk z3 H3 scope ce fp) rfl rfl rfl calm i [] z5 _ H5 (fun _ _ => False) I5 (stat I5 n5) st5 go) fun r z6 ⟨u, hr, h6⟩ => ?_
        subst hr
        refine thnF h6 fun _ z7 ⟨x, H7, I7, r7, y7, st7, n7⟩ => ?_
        have I7' := I7.pinned (stat I7 n7) (T.obj _ _ st7)
        refine thnF (pg.run _ z7 _ H7 x u _ I7' r7 (step x H7 y7)) fun _ z8 ⟨σ8, H8, I8, hw8, q8⟩ => ?_
        refine thnF (pt.run _ z8 σ8 H8 _ I8 q8) fun b z9 ⟨H9, I9, q9⟩ => ?_
        have fin : ∀ {z : Shared} {H' : Hp}, Inv (X.blk z3 H3 scope ce fp) ([] ++ pinsAt fp z7.heap) σ8 H' z → Nx H' →
            ∃ m, m < n ∧ ∃ i H', Inv (X.blk z3 H3 scope ce fp) [] (wipe σ (own.map (·.2))) H' z ∧ tn i z.heap ∧ (∀ b ∈ fp, H' b = none) ∧ W i m H' := fun {z H'} J' nx => by
          obtain ⟨m', hm, w'⟩ := hNx H' nx
          have pin : ∀ b ∈ fp, ∀ o, z7.heap.get? b = some o → z.heap.get? b = some o ∧ H' b = none := fun b hb o e => by
            have p := J'.pin (b, o) (List.mem_append_right _ (List.mem_append_right _ (mem_pinsAt hb e)))
            exact ⟨p.1, p.2.1⟩
          refine ⟨m', hm, i + 1, H', (J'.unpinned (pins := [])).weak (by rw [← hw8, wipe_length]) (fun j v e => by rw [← hw8] at e; exact (wipe_some e).1), T.keep _ _ _ st7 fun b hb o e => (pin b hb o e).1, fun b hb => ?_, w'⟩
          obtain ⟨o, e, _⟩ := T.obj _ _ st7 b hb
          exact (pin b hb o e).2
        cases b with
        | false => exact fin I9 q9
        | true =>
          refine thnF (pe.run _ z9 σ8 H9 _ I9 q9) fun zv z10 ⟨yv, H10, I10, r10, add⟩ => ?_
          exact put_tup (X := X.blk z3 H3 scope ce fp) I10 hu r10 add fun z11 H11 I11 nx => fin I11 nx
    exact PpSet.codeAny_compStart_set loop (T.self X.A 0 _ _ _ st4 loop)
  subst hcl
  exact goal
theorem pe_st {elt t0 i0 : Expr} {ifs : List Expr} {scope : Scope} {own : List (PySem.Str × Nat)} {pos : Pos} {wi : TI} {g : TG} {tt : L2.TT} {te : TE} (calm : X.calm = true) (hu : X.A.units + 64 < cLine) (nod : X.N.Nodup) (hi : PI X t0 i0 wi) (ok : BlkOk X.N X.env.scope scope own)
    (hg : ∀ (s : Shared) (H : Hp) (C : Addr) (cl : List (PySem.Str × Addr)) (fp : List Addr), PG (X.blk s H scope (compEnvC scope cl C X.env) fp) t0 g) (ht : ∀ (s : Shared) (H : Hp) (C : Addr) (cl : List (PySem.Str × Addr)) (fp : List Addr), PTs (X.blk s H scope (compEnvC scope cl C X.env) fp) ifs tt) (he : ∀ (s : Shared) (H : Hp) (C : Addr) (cl : List (PySem.Str × Addr)) (fp : List Addr), PE (X.blk s H scope (compEnvC scope cl C X.env) fp) elt te)
    (pl0 : ∀ x, foldedSetIterable i0 X.env x = pure x := by intro _; rfl) : PE X (.SetComp elt [⟨t0, i0, ifs, 0⟩] scope pos) (tSt X.K X.prog X.w wi g tt te (own.map (·.2))) := by
  refine ⟨fun pins s σ H Q I h => ?_⟩
  rw [PpSet.eval_SetComp]
  refine st_core calm hu nod I hi ok hg ht he pl0 h fun D C z m H' I' q hn f => ⟨m, hn, fun _ sb => ?_⟩
  obtain ⟨f0, f1, f2, f3, f4, f5⟩ := f
  exact ⟨.ref D, H', I'.turned (t' := z.toks) (fun b o hb e => (sb.2 b hb).trans e) f0 f1 f3 f4 f5, rfl, q⟩
/-- over what walks -/
theorem st_it {J : It} {n : Nat} {G : Hp → Prop} {Y : Nat → Hp → V → Hp → Prop} (wk : Walk J n G Y) {K : PySem.W.Frag} {P : Program} {w : World} {g : TG} {tt : L2.TT} {te : TE} {vs : List Nat} {σ : L2.St} {H1 : Hp} {D : Addr} {Qd : Hp → Prop} (Pv : Nat → Hp → Prop) (h0 : Pv 0 (upd H1 D (SetTO P w D []))) (hG : ∀ i H, i ≤ n → Pv i H → G H)
    (hs : ∀ i x H H', i < n → Pv i H → Y i H x H' → g x (wipe σ vs) H' fun σ2 H2 => wipe σ2 vs = wipe σ vs ∧ tt σ2 H2 fun b H3 => if b = true then te σ2 H3 fun y H4 => AddT K P w D y H4 (Pv (i + 1)) else Pv (i + 1) H3) (hd : ∀ H, Pv n H → Qd H) :
    ∃ W : Nat → Nat → Hp → Prop, (∃ m, W 0 m (upd H1 D (SetTO P w D []))) ∧ ∀ i m H, W i m H →
      (J.stop i H ∧ Qd H) ∨ (J.go i H ∧ ∃ Nx : Hp → Prop, (∀ H', Nx H' → ∃ m', m' < m ∧ W (i + 1) m' H') ∧ ∀ x H', J.yld i H x H' → g x (wipe σ vs) H' fun σ2 H2 => wipe σ2 vs = wipe σ vs ∧ tt σ2 H2 fun b H3 =>
        if b = true then te σ2 H3 fun y H4 => AddT K P w D y H4 Nx else Nx H3) := by
  refine ⟨fun i m H => m = n - i ∧ i ≤ n ∧ Pv i H, ⟨n, (Nat.sub_zero n).symm, Nat.zero_le n, h0⟩, fun i m H hw => ?_⟩
  obtain ⟨rfl, le, p⟩ := hw
  have stands := hG i H le p
  by_cases lt : i < n
  · exact .inr ⟨wk.goes i H lt stands, Pv (i + 1), fun H' p' => ⟨n - (i + 1), by omega, rfl, lt, p'⟩, fun x H' y => hs i x H H' lt p (wk.yields i H x H' lt stands y)⟩
  · obtain rfl : i = n := by omega
    exact .inl ⟨wk.stops H stands, hd H p⟩
/-- sorted of such a set -/
def rSortU (K : PySem.W.Frag) (P : Program) (w : World) : List V → Hp → VK → Prop := fun vs H Q => ∃ (a : Addr) (L : List (Addr × List Int)), vs = [V.ref a] ∧ H a = some (SetTO P w a L) ∧ (∀ p ∈ L, SqT K H p.1 (p.2.map V.int)) ∧ (∀ p ∈ L, p.2 ≠ []) ∧
  ∀ (L' : List (Addr × List Int)) (p : Addr), L'.Perm L → (L'.map (·.2)).Nodup → L'.length < 64 → L'.Pairwise (fun q r => PySem.W.dataLt (rowD r.2) (rowD q.2) = false) → H p = none → Q (.ref p) (upd H p (.lst (L'.map fun q => V.ref q.1)))
theorem cr_sortU (hc : X.calm = true) (hu : X.A.units + 64 < cLine) : CallR X (.builtin "sorted") (rSortU X.K X.prog X.w) := by
  intro pins s σ H vs us Q I r h
  obtain ⟨a, L, rfl, ha, hk, hne, q⟩ := h
  have R0 : SetT0 X.prog X.w s.heap a L := (I.hok a _ ha).1
  obtain ⟨es, ep, t, R⟩ := R0.full fun p hp => I.isT (hk p hp)
  rw [Vals.ref1 r]
  refine sort_setU R (I.ok.hd hc) hu hne fun z p out c L' keep gens os le hp hout pm pw => ?_
  have few : L'.length < 64 := by rw [pm.length_eq]; exact R.few
  have free : H p = none := I.hok.fresh le
  have short : (L'.map fun q => V.ref q.1).length ≤ sizeLine := by
    rw [List.length_map, sizeLine_eq]
    omega
  have J : Inv X pins σ (upd H p (.lst (L'.map fun q => V.ref q.1))) { s with heap := z.heap, gens := z.gens, drawn := z.drawn, toks := z.toks } :=
    I.call (ch := []) (Un.laid keep le free) (I.hok.laid keep le ⟨short, out, c, by rw [hout]; exact vals_of_refs L', hp⟩) (by rw [gens]; exact I.bare) (fun _ e => nomatch e)
  obtain ⟨zh, zg, zd, zt, zo⟩ := z
  have e : zo = s.os := os
  subst e
  exact ⟨.ref p, _, J, rfl, q L' p pm ((pm.map (·.2)).nodup_iff.mpr R.nd) few pw free⟩
end
end Ml
namespace Ml
open PySem PySem.Spec PyProof.Rows L2
/-! ### clusters -/
structure UlF (F : Nat → Nat → Int) (n : Nat) : Prop where
  diag : ∀ i, i < n → F i i = 0
  sym : ∀ i j, F i j = F j i
  tri : ∀ i j k, i < n → j < n → k < n → F i j ≤ max (F i k) (F k j)
  pos : ∀ i j, i < n → j < n → i ≠ j → 0 < F i j
theorem jn_ulF {t : List (List Int)} (hW : WT t) : UlF (jn t) t.length := ⟨fun i hi => jn_diag hW hi, fun i j => jn_sym hW i j, fun i j k hi hj hk => jn_tri hW hi hj hk, fun i j hi hj h => by have := jn_pos hW hi hj h; unfold LvOk at this; omega⟩
theorem UlF.gr {F : Nat → Nat → Int} {n : Nat} (U : UlF F n) {l : Int} (h : 0 ≤ l) : GrF F n l := ⟨fun i hi => by rw [U.diag i hi]; exact h, U.sym, U.tri⟩
theorem UlF.nn {F : Nat → Nat → Int} {n : Nat} (U : UlF F n) {i j : Nat} (hi : i < n) (hj : j < n) : 0 ≤ F i j := by
  by_cases e : i = j
  · subst e
    rw [U.diag i hi]
    exact Int.le_refl _
  · exact Int.le_of_lt (U.pos i j hi hj e)
def Cl (F : Nat → Nat → Int) (n : Nat) (k : List Int) : Prop := ∃ i j, i < n ∧ j < n ∧ i ≠ j ∧ k = iL (grp F n (F i j) i)
theorem iL_inj2 {p q : List Nat} (h : iL p = iL q) : p = q := List.map_inj_right (fun a b e => by omega) |>.mp h
section
variable {F : Nat → Nat → Int} {n : Nat}
theorem Cl.ne (U : UlF F n) {k : List Int} (h : Cl F n k) : k ≠ [] := by
  obtain ⟨i, j, hi, hj, _, rfl⟩ := h
  intro e
  have := grp_ne (U.gr (U.nn hi hj)) hi
  cases e2 : grp F n (F i j) i with
  | nil => exact this e2
  | cons a r => rw [e2] at e; cases e
theorem least_of {Q : Nat → Prop} : ∀ (m x : Nat), x ≤ m → Q x → ∃ b, Q b ∧ ∀ y, y < b → ¬ Q y
  | 0, x, hx, h => ⟨x, h, fun y hy => by omega⟩
  | m + 1, x, hx, h => by
    by_cases e : ∃ y, y < x ∧ Q y
    · obtain ⟨y, hy, hq⟩ := e
      exact least_of m y (by omega) hq
    · exact ⟨x, h, fun y hy hq => e ⟨y, hy, hq⟩⟩
theorem most_of (f : Nat → Int) : ∀ (l : List Nat), l ≠ [] → ∃ b ∈ l, ∀ x ∈ l, f x ≤ f b
  | [], h => absurd rfl h
  | [a], _ => ⟨a, by simp, fun x hx => by rw [List.mem_singleton.mp hx]; exact Int.le_refl _⟩
  | a :: c :: l, _ => by
    obtain ⟨b, hb, hall⟩ := most_of f (c :: l) (by simp)
    rcases Int.le_total (f a) (f b) with h | h
    · refine ⟨b, List.mem_cons_of_mem _ hb, fun x hx => ?_⟩
      rcases List.mem_cons.mp hx with rfl | hx
      · exact h
      · exact hall x hx
    · refine ⟨a, by simp, fun x hx => ?_⟩
      rcases List.mem_cons.mp hx with rfl | hx
      · exact Int.le_refl _
      · exact Int.le_trans (hall x hx) h
/-- a group of two or more items at a level is a cluster -/
theorem cl_of_grp (U : UlF F n) {l : Int} (h0 : 0 ≤ l) {i : Nat} (hi : i < n) (h2 : 1 < (grp F n l i).length) : Cl F n (iL (grp F n l i)) := by
  have G := U.gr h0
  obtain ⟨b, hb, hall⟩ := most_of (F i) (grp F n l i) (grp_ne G hi)
  obtain ⟨hbn, hbl⟩ := mem_grp.mp hb
  have hib : i ≠ b := by
    rintro rfl
    have asc := grp_asc F n l i
    have all : ∀ x ∈ grp F n l i, x = i := fun x hx => by
      by_cases e : i = x
      · exact e.symm
      · have h1 := hall x hx
        have h3 := U.pos i x hi (mem_grp.mp hx).1 e
        rw [U.diag i hi] at h1
        omega
    cases e1 : grp F n l i with
    | nil => rw [e1] at h2; exact absurd h2 (show ¬ 1 < 0 by decide)
    | cons x r =>
      cases r with
      | nil => rw [e1] at h2; exact absurd h2 (show ¬ 1 < 1 by decide)
      | cons y r =>
        rw [e1] at asc all
        have z := (List.pairwise_cons.mp asc).1 y (by simp)
        rw [all x (by simp), all y (by simp)] at z
        omega
  refine ⟨i, b, hi, hbn, hib, ?_⟩
  congr 1
  unfold grp
  refine List.filter_congr fun x hx => ?_
  have hx := List.mem_range.mp hx
  refine decide_eq_decide.mpr ⟨fun h => hall x (mem_grp.mpr ⟨hx, h⟩), fun h => Int.le_trans h hbl⟩
theorem grp_two (U : UlF F n) {i j : Nat} (hi : i < n) (hj : j < n) (ne : i ≠ j) : 1 < (grp F n (F i j) i).length := by
  have m1 : i ∈ grp F n (F i j) i := mem_grp.mpr ⟨hi, by rw [U.diag i hi]; exact U.nn hi hj⟩
  have m2 : j ∈ grp F n (F i j) i := mem_grp.mpr ⟨hj, Int.le_refl _⟩
  cases e : grp F n (F i j) i with
  | nil => rw [e] at m1; cases m1
  | cons x r =>
    cases r with
    | nil =>
      rw [e] at m1 m2
      exact absurd ((List.mem_singleton.mp m1).trans (List.mem_singleton.mp m2).symm) ne
    | cons y r => simp
/-- an item that tells a cluster -/
def Mark (F : Nat → Nat → Int) (n : Nat) (k : List Int) (b : Nat) : Prop := ∃ a, a < n ∧ b < n ∧ a ≠ b ∧ k = iL (grp F n (F a b) a) ∧ (∀ x ∈ grp F n (F a b) a, a ≤ x) ∧ ∀ x ∈ grp F n (F a b) a, x < b → F a x < F a b
theorem mark_has (U : UlF F n) {k : List Int} (h : Cl F n k) : ∃ b, b < n ∧ Mark F n k b := by
  obtain ⟨i, j, hi, hj, ne, rfl⟩ := h
  have G := U.gr (U.nn hi hj)
  obtain ⟨a, ha, hle⟩ : ∃ a, a ∈ grp F n (F i j) i ∧ ∀ y, y < a → y ∉ grp F n (F i j) i := least_of i i (Nat.le_refl _) (grp_self G hi)
  obtain ⟨han, hail⟩ := mem_grp.mp ha
  have ea := grp_same G hi ha
  have hj' : j ∈ grp F n (F i j) i := mem_grp.mpr ⟨hj, Int.le_refl _⟩
  obtain ⟨y, hy, hyl⟩ : ∃ y, y ∈ grp F n (F i j) i ∧ F a y = F i j := by
    have t1 := U.tri i j a hi hj han
    rw [← ea] at hj'
    have t2 := (mem_grp.mp hj').2
    have s1 := U.sym i a
    by_cases e : F a j = F i j
    · exact ⟨j, by rw [← ea]; exact hj', e⟩
    · exact ⟨i, grp_self G hi, by omega⟩
  obtain ⟨b, ⟨hb, hbl⟩, hbm⟩ := least_of (Q := fun y => y ∈ grp F n (F i j) i ∧ F a y = F i j) y y (Nat.le_refl _) ⟨hy, hyl⟩
  have hbn := (mem_grp.mp hb).1
  refine ⟨b, hbn, a, han, hbn, fun e => ?_, by rw [hbl, ea], fun x hx => ?_, fun x hx hxb => ?_⟩
  · rw [← e, U.diag a han] at hbl
    have := U.pos i j hi hj ne
    omega
  · rw [hbl, ea] at hx
    by_cases h : a ≤ x
    · exact h
    · exact absurd hx (hle x (by omega))
  · rw [hbl] at hx ⊢
    rw [ea] at hx
    have h1 : F a x ≤ F i j := by
      rw [← ea] at hx
      exact (mem_grp.mp hx).2
    by_cases e : F a x = F i j
    · exact absurd ⟨hx, e⟩ (hbm x hxb)
    · omega
theorem mark_inj (U : UlF F n) {k k' : List Int} {b : Nat} (h : Mark F n k b) (h' : Mark F n k' b) : k = k' := by
  obtain ⟨a, ha, hb, ne, rfl, h1, h2⟩ := h
  obtain ⟨c, hc, _, ne', rfl, h3, h4⟩ := h'
  have key : ∀ {a c : Nat}, a < n → c < n → a ≠ b → (∀ x ∈ grp F n (F c b) c, c ≤ x) → (∀ x ∈ grp F n (F c b) c, x < b → F c x < F c b) → (∀ x ∈ grp F n (F a b) a, a ≤ x) → F a b ≤ F c b → grp F n (F a b) a = grp F n (F c b) c := by
    intro a c ha hc ne h3 h4 h1 le
    have Gc := U.gr (U.nn hc hb)
    have Ga := U.gr (U.nn ha hb)
    have mb : b ∈ grp F n (F c b) c := mem_grp.mpr ⟨hb, Int.le_refl _⟩
    have mb' : b ∈ grp F n (F a b) a := mem_grp.mpr ⟨hb, Int.le_refl _⟩
    have lab : a < b := by
      have := h1 b mb'
      omega
    have t1 := U.tri c a b hc ha hb
    have s1 := U.sym b a
    have ma : a ∈ grp F n (F c b) c := mem_grp.mpr ⟨ha, by omega⟩
    have lt := h4 a ma lab
    have t2 := U.tri c b a hc hb ha
    have e : F a b = F c b := by omega
    have e1 := grp_same Ga ha mb'
    have e2 := grp_same Gc hc mb
    rw [← e1, ← e2, e]
  rcases Int.le_total (F a b) (F c b) with h | h
  · rw [key ha hc ne h3 h4 h1 h]
  · rw [key hc ha ne' h1 h2 h3 h]
theorem cl_few (U : UlF F n) {ks : List (List Int)} (nd : ks.Nodup) (h : ∀ k ∈ ks, Cl F n k) : ks.length ≤ n := by
  have ch : ∀ k : List Int, ∃ b, k ∈ ks → b < n ∧ Mark F n k b := fun k => by
    by_cases hk : k ∈ ks
    · obtain ⟨b, h1, h2⟩ := mark_has U (h k hk)
      exact ⟨b, fun _ => ⟨h1, h2⟩⟩
    · exact ⟨0, fun z => absurd z hk⟩
  have g : ∃ f : List Int → Nat, ∀ k, k ∈ ks → f k < n ∧ Mark F n k (f k) := ⟨fun k => Classical.choose (ch k), fun k => Classical.choose_spec (ch k)⟩
  obtain ⟨f, hf⟩ := g
  have nd2 : (ks.map f).Nodup := List.pairwise_map.mpr (List.Pairwise.imp_of_mem (fun {p q} hp hq hne e => hne (mark_inj U (hf p hp).2 (by rw [e]; exact (hf q hq).2))) nd)
  have := nodup_len n (ks.map f) nd2 fun x hx => by
    obtain ⟨k, hk, rfl⟩ := List.mem_map.mp hx
    exact (hf k hk).1
  rwa [List.length_map] at this
end
/-! a walk, whatever is done at each turn -/
theorem w_it {J : It} {n : Nat} {G : Hp → Prop} {Y : Nat → Hp → V → Hp → Prop} (wk : Walk J n G Y) {Body : V → Hp → (Hp → Prop) → Prop} {H0 : Hp} {Qd : Hp → Prop} (Pv : Nat → Hp → Prop) (h0 : Pv 0 H0) (hG : ∀ i H, i ≤ n → Pv i H → G H)
    (hs : ∀ i x H H', i < n → Pv i H → Y i H x H' → Body x H' (Pv (i + 1))) (hd : ∀ H, Pv n H → Qd H) :
    ∃ W : Nat → Nat → Hp → Prop, (∃ m, W 0 m H0) ∧ ∀ i m H, W i m H → (J.stop i H ∧ Qd H) ∨ (J.go i H ∧ ∃ Nx : Hp → Prop, (∀ H', Nx H' → ∃ m', m' < m ∧ W (i + 1) m' H') ∧ ∀ x H', J.yld i H x H' → Body x H' Nx) := by
  refine ⟨fun i m H => m = n - i ∧ i ≤ n ∧ Pv i H, ⟨n, (Nat.sub_zero n).symm, Nat.zero_le n, h0⟩, fun i m H hw => ?_⟩
  obtain ⟨rfl, le, p⟩ := hw
  have stands := hG i H le p
  by_cases lt : i < n
  · exact .inr ⟨wk.goes i H lt stands, Pv (i + 1), fun H' p' => ⟨n - (i + 1), by omega, rfl, lt, p'⟩, fun x H' y => hs i x H H' lt p (wk.yields i H x H' lt stands y)⟩
  · obtain rfl : i = n := by omega
    exact .inl ⟨wk.stops H stands, hd H p⟩
end Ml
namespace Ml
open PySem PySem.Spec PyProof.Rows L2
/-! ### sorted of a list of data that compare -/
def rNotInDT (K : PySem.W.Frag) : R2 := fun x y H Q => ∃ d ds, Dp K H x d ∧ Dp K H y (.tuple ds) ∧ SeqAt.shaped d = true ∧ SeqAt.shaped (.tuple ds) = true ∧ Q (.bl (!ds.any fun z => PyData.eqv z d)) H
theorem op_notInDT {X : Cx} (hu : X.A.units + 65 < cLine) : OpR X (compareOp .NotIn) (rNotInDT X.K) := by
  intro pins s σ H x y v u Q I rx ry h
  obtain ⟨d, ds, hd, he, sd, se, q⟩ := h
  obtain ⟨as, r1⟩ := Dp.reads I d x v hd rx
  obtain ⟨bs, r2⟩ := Dp.reads I (.tuple ds) y u he ry
  exact SeqAt.notIn_tuple_reads r2 r1 (SeqAt.canLay_of_shaped se) (SeqAt.canLay_of_shaped sd) (room_in_shaped sd hu) ⟨.bl _, H, I, rfl, q⟩
end Ml
namespace Ml
open PySem PySem.Spec PyProof.Rows L2
/-! ### joins -/
abbrev Jo := Int × List (List Int)
def jnD (j : Jo) : PyData := .tuple [.int j.1, tabD j.2]
def partsN (F : Nat → Nat → Int) (n : Nat) (l : Int) (g : List Nat) : List (List Nat) := (gsL F n (l - 1) n).filter fun p => decide (p.headD 0 ∈ g)
def joinG (F : Nat → Nat → Int) (n : Nat) (l : Int) (g : List Nat) : Jo := (l, (partsN F n l g).map iL)
def IsJ (F : Nat → Nat → Int) (n : Nat) (j : Jo) : Prop := ∃ i x, i < n ∧ x < n ∧ i ≠ x ∧ j = joinG F n (F i x) (grp F n (F i x) i)
section
variable {F : Nat → Nat → Int} {n : Nat}
/-- the parts by the items of the group -/
theorem parts_by (l m : Int) (i : Nat) : partsN F n l (grp F n m i) = ((grp F n m i).filter fun x => decide ((grp F n (l - 1) x).head? = some x)).map (grp F n (l - 1)) := by
  unfold partsN gsL
  rw [List.filter_map]
  congr 1
  unfold heads
  rw [List.filter_filter]
  show _ = List.filter _ (List.filter (fun j => decide (F i j ≤ m)) (List.range n))
  rw [List.filter_filter]
  refine List.filter_congr fun x hx => ?_
  have hxn := List.mem_range.mp hx
  by_cases h : (grp F n (l - 1) x).head? = some x
  · have e : (grp F n (l - 1) x).headD 0 = x := by
      cases eg : grp F n (l - 1) x with
      | nil => rw [eg] at h; cases h
      | cons a r => rw [eg] at h; cases h; rfl
    simp only [h, Function.comp, e, mem_grp, hxn, true_and, decide_true, Bool.and_true, Bool.true_and]
  · simp only [h, decide_false, Bool.and_false, Bool.false_and]
theorem head_asc {r : List Nat} {a : Nat} (h : (a :: r).Pairwise (· < ·)) : ∀ x ∈ a :: r, a ≤ x := fun x hx => by
  rcases List.mem_cons.mp hx with rfl | hx
  · exact Nat.le_refl _
  · exact Nat.le_of_lt ((List.pairwise_cons.mp h).1 x hx)
/-- the first part begins with the first item -/
theorem parts_first (U : UlF F n) {l : Int} (h1 : 1 ≤ l) {i : Nat} (hi : i < n) : ∃ (a : Nat) (r : List Int) (q : List (List Int)), (partsN F n l (grp F n l i)).map iL = ((a : Int) :: r) :: q ∧ (grp F n l i).head? = some a := by
  have G := U.gr (show 0 ≤ l by omega)
  have G1 := U.gr (show 0 ≤ l - 1 by omega)
  obtain ⟨a, ha, _, hh⟩ := hd_mem (grp_ne G hi)
  have asc := grp_asc F n l i
  rw [parts_by]
  cases eg : grp F n l i with
  | nil => rw [eg] at hh; cases hh
  | cons b g =>
    rw [eg] at hh ha asc
    obtain rfl : b = a := Option.some.inj hh
    have hbn : b < n := by
      have : b ∈ grp F n l i := by rw [eg]; exact ha
      exact (mem_grp.mp this).1
    have hb1 : (grp F n (l - 1) b).head? = some b := by
      obtain ⟨c, hc, _, hch⟩ := hd_mem (grp_ne G1 hbn)
      have hcb : c ∈ grp F n l i := by
        have m1 : b ∈ grp F n l i := by rw [eg]; exact ha
        rw [← grp_same G hi m1]
        have := mem_grp.mp hc
        exact mem_grp.mpr ⟨this.1, by omega⟩
      rw [eg] at hcb
      have h3 := head_asc asc c hcb
      have h4 : c ≤ b := by
        have a2 := grp_asc F n (l - 1) b
        have m2 := grp_self G1 hbn
        cases e2 : grp F n (l - 1) b with
        | nil => rw [e2] at hch; cases hch
        | cons d r2 =>
          rw [e2] at hch a2 m2
          obtain rfl : d = c := Option.some.inj hch
          exact head_asc a2 b m2
      rw [hch, show c = b by omega]
    rw [List.filter_cons_of_pos (by rw [hb1]; simp), List.map_cons, List.map_cons]
    cases e2 : grp F n (l - 1) b with
    | nil => rw [e2] at hb1; cases hb1
    | cons d r2 =>
      rw [e2] at hb1
      obtain rfl : d = b := Option.some.inj hb1
      exact ⟨d, iL r2, _, rfl, hh⟩
def k2 (j : Jo) : Int := hdI (j.2.headD [])
def JLt (p q : Jo) : Prop := p.1 < q.1 ∨ (p.1 = q.1 ∧ k2 p < k2 q)
theorem jlt_irr (p : Jo) : ¬ JLt p p := fun h => by
  rcases h with h | ⟨_, h⟩
  · exact Int.lt_irrefl _ h
  · exact Int.lt_irrefl _ h
theorem k2_join (U : UlF F n) {l : Int} (h1 : 1 ≤ l) {i : Nat} (hi : i < n) {a : Nat} (hh : (grp F n l i).head? = some a) : k2 (joinG F n l (grp F n l i)) = (a : Int) := by
  obtain ⟨b, r, q, e, hb⟩ := parts_first U h1 hi
  rw [hh] at hb
  obtain rfl : a = b := Option.some.inj hb
  unfold k2 joinG
  show hdI (((partsN F n l (grp F n l i)).map iL).headD []) = _
  rw [e]
  rfl
/-! the program's list -/
def newG (F : Nat → Nat → Int) (n : Nat) (l : Int) (gs : List (List Nat)) : List (List Nat) := gs.filter fun g => decide (g ∉ gsL F n (l - 1) n)
def joinsA (F : Nat → Nat → Int) (n : Nat) (l : Int) : List Jo := (newG F n l (gsL F n l n)).map (joinG F n l)
theorem newG_is (U : UlF F n) {l : Int} (h1 : 1 ≤ l) {g : List Nat} (hg : g ∈ newG F n l (gsL F n l n)) : ∃ i x, i < n ∧ x < n ∧ i ≠ x ∧ F i x = l ∧ g = grp F n l i := by
  have G := U.gr (show 0 ≤ l by omega)
  have G1 := U.gr (show 0 ≤ l - 1 by omega)
  obtain ⟨h2, h3⟩ := List.mem_filter.mp hg
  have h3 : g ∉ gsL F n (l - 1) n := of_decide_eq_true h3
  obtain ⟨i, hi, rfl⟩ := (mem_gsL G).mp h2
  by_cases hx : ∃ x, x < n ∧ F i x = l
  · obtain ⟨x, hx, e⟩ := hx
    refine ⟨i, x, hi, hx, fun z => ?_, e, rfl⟩
    rw [← z, U.diag i hi] at e
    omega
  · exfalso
    refine h3 ((mem_gsL G1).mpr ⟨i, hi, ?_⟩)
    unfold grp
    refine List.filter_congr fun x hxr => ?_
    have hxn := List.mem_range.mp hxr
    have : F i x ≠ l := fun e => hx ⟨x, hxn, e⟩
    refine decide_eq_decide.mpr ⟨fun h => by omega, fun h => by omega⟩
theorem newG_has (U : UlF F n) {i x : Nat} (hi : i < n) (hx : x < n) (ne : i ≠ x) : grp F n (F i x) i ∈ newG F n (F i x) (gsL F n (F i x) n) := by
  have hp := U.pos i x hi hx ne
  have G := U.gr (show 0 ≤ F i x by omega)
  have G1 := U.gr (show 0 ≤ F i x - 1 by omega)
  refine List.mem_filter.mpr ⟨(mem_gsL G).mpr ⟨i, hi, rfl⟩, decide_eq_true fun h => ?_⟩
  obtain ⟨y, hy, e⟩ := (mem_gsL G1).mp h
  have m1 : i ∈ grp F n (F i x - 1) y := by rw [← e]; exact grp_self G hi
  have m2 : x ∈ grp F n (F i x - 1) y := by rw [← e]; exact mem_grp.mpr ⟨hx, Int.le_refl _⟩
  have a1 := (mem_grp.mp m1).2
  have a2 := (mem_grp.mp m2).2
  have t := U.tri i x y hi hx hy
  have s := U.sym i y
  omega
theorem joinsA_asc (U : UlF F n) {l : Int} (h1 : 1 ≤ l) : (joinsA F n l).Pairwise JLt := by
  unfold joinsA
  refine List.pairwise_map.mpr ?_
  have asc := gsL_asc F n l n
  rw [List.pairwise_map] at asc
  refine List.Pairwise.imp_of_mem (fun {g h} hg hh z => ?_) (List.Pairwise.filter _ asc)
  obtain ⟨i, x, hi, _, _, _, rfl⟩ := newG_is U h1 hg
  obtain ⟨j, y, hj, _, _, _, rfl⟩ := newG_is U h1 hh
  have G := U.gr (show 0 ≤ l by omega)
  obtain ⟨a, _, ea, hha⟩ := hd_mem (grp_ne G hi)
  obtain ⟨b, _, eb, hhb⟩ := hd_mem (grp_ne G hj)
  rw [ea, eb] at z
  refine .inr ⟨rfl, ?_⟩
  rw [k2_join U h1 hi hha, k2_join U h1 hj hhb]
  exact z
theorem joins_asc (U : UlF F n) {ls : List Int} (h1 : ∀ l ∈ ls, 1 ≤ l) (srt : ls.Pairwise (· < ·)) : (ls.flatMap (joinsA F n)).Pairwise JLt := by
  rw [List.pairwise_flatMap]
  refine ⟨fun l hl => joinsA_asc U (h1 l hl), srt.imp fun {l m} h p hp q hq => ?_⟩
  obtain ⟨g, _, rfl⟩ := List.mem_map.mp hp
  obtain ⟨g', _, rfl⟩ := List.mem_map.mp hq
  exact .inl h
theorem joins_mem (U : UlF F n) {ls : List Int} (h : ∀ l, l ∈ ls ↔ 1 ≤ l ∧ ∃ i j, i < n ∧ j < n ∧ l = F i j) {j : Jo} : j ∈ ls.flatMap (joinsA F n) ↔ IsJ F n j := by
  rw [List.mem_flatMap]
  constructor
  · rintro ⟨l, hl, hj⟩
    obtain ⟨g, hg, rfl⟩ := List.mem_map.mp hj
    obtain ⟨i, x, hi, hx, ne, rfl, rfl⟩ := newG_is U ((h l).mp hl).1 hg
    exact ⟨i, x, hi, hx, ne, rfl⟩
  · rintro ⟨i, x, hi, hx, ne, rfl⟩
    have := U.pos i x hi hx ne
    exact ⟨F i x, (h _).mpr ⟨by omega, i, x, hi, hx, rfl⟩, List.mem_map.mpr ⟨_, newG_has U hi hx ne, rfl⟩⟩
theorem joins_few (U : UlF F n) {js : List Jo} (nd : js.Nodup) (h : ∀ j ∈ js, IsJ F n j) : js.length ≤ n := by
  have ch : ∀ j : Jo, ∃ k : List Int, j ∈ js → ∃ i x, i < n ∧ x < n ∧ i ≠ x ∧ j = joinG F n (F i x) (grp F n (F i x) i) ∧ k = iL (grp F n (F i x) i) := fun j => by
    by_cases hj : j ∈ js
    · obtain ⟨i, x, hi, hx, ne, e⟩ := h j hj
      exact ⟨_, fun _ => ⟨i, x, hi, hx, ne, e, rfl⟩⟩
    · exact ⟨[], fun z => absurd z hj⟩
  have g : ∃ f : Jo → List Int, ∀ j, j ∈ js → ∃ i x, i < n ∧ x < n ∧ i ≠ x ∧ j = joinG F n (F i x) (grp F n (F i x) i) ∧ f j = iL (grp F n (F i x) i) := ⟨fun j => Classical.choose (ch j), fun j => Classical.choose_spec (ch j)⟩
  obtain ⟨f, hf⟩ := g
  have le : ∀ {i x j y : Nat}, i < n → x < n → j < n → y < n → grp F n (F i x) i = grp F n (F j y) j → F i x ≤ F j y := fun {i x j y} hi hx hj hy e => by
    have m1 : i ∈ grp F n (F j y) j := by rw [← e]; exact grp_self (U.gr (U.nn hi hx)) hi
    have m2 : x ∈ grp F n (F j y) j := by rw [← e]; exact mem_grp.mpr ⟨hx, Int.le_refl _⟩
    have a1 := (mem_grp.mp m1).2
    have a2 := (mem_grp.mp m2).2
    have t := U.tri i x j hi hx hj
    have s := U.sym i j
    omega
  have nd2 : (js.map f).Nodup := List.pairwise_map.mpr (List.Pairwise.imp_of_mem (fun {p q} hp hq hne e => by
    obtain ⟨i, x, hi, hx, _, rfl, ep⟩ := hf p hp
    obtain ⟨j, y, hj, hy, _, rfl, eq⟩ := hf q hq
    rw [ep, eq] at e
    have eg := iL_inj2 e
    have el : F i x = F j y := Int.le_antisymm (le hi hx hj hy eg) (le hj hy hi hx eg.symm)
    refine hne ?_
    rw [eg, el]) nd)
  have := cl_few U nd2 fun k hk => by
    obtain ⟨j, hj, rfl⟩ := List.mem_map.mp hk
    obtain ⟨i, x, hi, hx, ne, _, e⟩ := hf j hj
    exact ⟨i, x, hi, hx, ne, e⟩
  rwa [List.length_map] at this
theorem jlt_nodup {js : List Jo} (h : js.Pairwise JLt) : js.Nodup := h.imp fun {p q} z e => by
  rw [e] at z
  exact jlt_irr _ z
end
/-! joins on the heap -/
def JT (K : PySem.W.Frag) (H : Hp) (v : V) (j : Jo) : Prop := ∃ p qv, v = .ref p ∧ SqT K H p [.int j.1, qv] ∧ TT K H qv j.2
def JRows (K : PySem.W.Frag) (H : Hp) (vs : List V) (js : List Jo) : Prop := vs.length = js.length ∧ ∀ (i : Nat) v j, vs[i]? = some v → js[i]? = some j → JT K H v j
def JTT (K : PySem.W.Frag) (H : Hp) (v : V) (js : List Jo) : Prop := ∃ p vs, v = .ref p ∧ SqT K H p vs ∧ JRows K H vs js
section
variable {K : PySem.W.Frag} {H H' : Hp} {vs : List V} {js : List Jo} {v : V} {j : Jo}
theorem JT.same (h : JT K H v j) (e : Sm H H') : JT K H' v j := by
  obtain ⟨p, qv, h1, h2, h3⟩ := h
  exact ⟨p, qv, h1, e.sqT h2, h3.same e⟩
theorem JT.upd {p : Addr} {ys zs : List V} (h : JT K H v j) (hp : H p = some (.lst ys)) : JT K (L2.upd H p (.lst zs)) v j := by
  obtain ⟨a, qv, h1, h2, h3⟩ := h
  exact ⟨a, qv, h1, sqT_upd hp h2, h3.upd hp⟩
theorem JT.dp (h : JT K H v j) : Dp K H v (jnD j) := by
  obtain ⟨p, qv, rfl, h2, h3⟩ := h
  exact .tup h2 (.cons (.int _) (.cons h3.dp .nil))
theorem JRows.nil : JRows K H [] [] := ⟨rfl, fun i v j a _ => by simp at a⟩
theorem JRows.same (h : JRows K H vs js) (e : Sm H H') : JRows K H' vs js := ⟨h.1, fun i v j a b => (h.2 i v j a b).same e⟩
theorem JRows.upd {p : Addr} {ys zs : List V} (h : JRows K H vs js) (hp : H p = some (.lst ys)) : JRows K (L2.upd H p (.lst zs)) vs js := ⟨h.1, fun i v j a b => (h.2 i v j a b).upd hp⟩
theorem JRows.snoc (h : JRows K H vs js) (q : JT K H v j) : JRows K H (vs ++ [v]) (js ++ [j]) := by
  refine ⟨by rw [List.length_append, List.length_append, h.1]; rfl, fun i w k a b => ?_⟩
  by_cases hi : i < vs.length
  · rw [List.getElem?_append_left hi] at a
    rw [List.getElem?_append_left (by rw [← h.1]; exact hi)] at b
    exact h.2 i w k a b
  · rw [List.getElem?_append_right (by omega)] at a
    rw [List.getElem?_append_right (by rw [← h.1]; omega)] at b
    have h0 : i - vs.length = 0 := by
      have := (List.getElem?_eq_some_iff.mp a).1
      simpa using this
    rw [h0] at a
    rw [show i - js.length = 0 by rw [← h.1]; exact h0] at b
    cases a
    cases b
    exact q
theorem JTT.same (h : JTT K H v js) (e : Sm H H') : JTT K H' v js := by
  obtain ⟨p, vs, h1, h2, h3⟩ := h
  exact ⟨p, vs, h1, e.sqT h2, h3.same e⟩
theorem JTT.dp (h : JTT K H v js) : Dp K H v (.tuple (js.map jnD)) := by
  obtain ⟨p, vs, rfl, h2, h3⟩ := h
  refine .tup h2 (dpAll_of (by rw [List.length_map]; exact h3.1) fun i v d a b => ?_)
  rw [List.getElem?_map] at b
  cases e : js[i]? with
  | none => rw [e] at b; cases b
  | some j => rw [e] at b; cases b; exact (h3.2 i v j a e).dp
end
end Ml
namespace Ml
open PySem PySem.Spec PyProof.Rows L2
/-! ### {key: value for ..}, the keys tuples -/
section
variable {X : Cx}
/-- one more entry of the dict at D -/
def PutT (D : Addr) (y v : V) (H : Hp) (Nx : Hp → Prop) : Prop := ∃ (kvs : List (List Key × V)) (k : List Key) (b : Addr), y = .ref b ∧ H b = some (.tup (k.map kV)) ∧ H D = some (.dT kvs) ∧ kvs.length < sizeLine ∧ Nx (upd H D (.dT (putK kvs k v)))
theorem put_key {pins : List (Addr × Obj)} {σ : L2.St} {H : Hp} {s : Shared} {E : Value → Shared → Prop} {D : Addr} {y v : V} {u r : Value} {Nx : Hp → Prop} {Q : Unit → Shared → Prop} (I : Inv X pins σ H s) (hu : X.A.units + 64 < cLine) (ry : RelV y u) (rv : RelV v r) (h : PutT D y v H Nx)
    (fin : ∀ z H', Inv X pins σ H' z → Nx H' → Q () z) : wpAny (model X.prog X.w) X.A (dictSet D u r) Q E s := by
  obtain ⟨kvs, k, b, rfl, eb, hD, few, nx⟩ := h
  cases (show u = Value.ref b from ry)
  obtain ⟨len, notSys, xs, rel, there⟩ := dt_of I.hok hD
  have few' : (putK kvs k v).length ≤ sizeLine := by
    have := length_putK kvs k v
    omega
  refine wpAny_dictSet_heap (hsz := by rw [← Paired.length rel]; exact len) (show X.A.units < cLine by omega) (key_of I.hok eb) there fun g now sb => fin _ _ ?_ nx
  obtain ⟨o, es, ep, ho, o2, o3, o4, _, o5⟩ := now
  refine d_write I (by rw [hD]; trivial) sb ⟨o, ho⟩ ⟨few', notSys, _, (rel.put k eb rv).keeps fun c ys ec => ?_, o, es, ep, ho, o2, o3, o4, o5⟩
  rwa [upd_ne (ne_of ec hD (fun e => nomatch e))]
def tDt (wi : TI) (g : TG) (tt : L2.TT) (tk te : TE) (vs : List Nat) : TE := fun σ H Q => wi σ H fun J H1 => ∀ D, H1 D = none → ∃ W : Nat → Nat → Hp → Prop, (∃ m, W 0 m (upd H1 D (.dT []))) ∧ ∀ i m H, W i m H →
  (J.stop i H ∧ Q (.ref D) H) ∨ (J.go i H ∧ ∃ Nx : Hp → Prop, (∀ H', Nx H' → ∃ m', m' < m ∧ W (i + 1) m' H') ∧ ∀ x H', J.yld i H x H' → g x (wipe σ vs) H' fun σ2 H2 => wipe σ2 vs = wipe σ vs ∧ tt σ2 H2 fun b H3 =>
    if b = true then tk σ2 H3 fun y H4 => te σ2 H4 fun v H5 => PutT D y v H5 Nx else Nx H3)
theorem dt_core {pins : List (Addr × Obj)} {s : Shared} {σ : L2.St} {H : Hp} {Q : VK} {kx vx t0 i0 : Expr} {ifs : List Expr} {scope : Scope} {own : List (PySem.Str × Nat)} {pos pos' : Pos} {wi : TI} {g : TG} {tt : L2.TT} {tk te : TE} {use : Option (Value → Sem Unit)} {Qf : Value → Shared → Prop}
    (calm : X.calm = true) (hu : X.A.units + 64 < cLine) (nod : X.N.Nodup) (I : Inv X pins σ H s) (hi : PI X t0 i0 wi) (ok : BlkOk X.N X.env.scope scope own)
    (hg : InBlk X scope fun Y => PG Y t0 g) (ht : InBlk X scope fun Y => PTs Y ifs tt) (hk : InBlk X scope fun Y => PE Y kx tk) (he : InBlk X scope fun Y => PE Y vx te)
    (pl0 : ∀ x, foldedSetIterable i0 X.env x = pure x) (h : tDt wi g tt tk te (own.map (·.2)) σ H Q)
    (back : ∀ D C z m H', Inv X pins σ H' z → Q (.ref D) H' → z.heap.Ns C m → FpOk X pins H' C → compPost (model X.prog X.w) X.A X.xe use Qf (.ref D) C (.ok .next) z) :
    wpAny (model X.prog X.w) X.A (comprehension (.DictComp kx vx [⟨t0, i0, ifs, 0⟩] scope pos) scope X.env pos' newDict false (eval i0 X.env) use) Qf X.xe s := by
  have frees : ∀ y ∈ scope.names, y.2 = .free → ∃ c, X.env.cells.lookup y.1 = some c := fun y hy e => by
    rcases ok.free y hy e with k | k
    · exact I.ok.has _ (.inl k)
    · exact I.ok.has _ (.inr k)
  refine wpAny_comprehension_free (use := use) rfl pl0 (closure_ok frees) ok.kind (fun y hy e => by rw [ok.uniq y hy, e]) (thn (hi.run pins s σ H _ I h) fun xv z1 hx => thn hx fun itv z2 h2 => ?_)
  obtain ⟨it, fp, tn, J, H2, rfl, I2, T, st2, f2, q⟩ := h2
  refine wpAny_newObj_type (newEnv_comp ?_)
  generalize hD : z2.heap.objs.size = D
  have hDn : H2 D = none := I2.hok.fresh (Nat.le_of_eq hD)
  obtain ⟨W, ⟨m0, w0⟩, turn⟩ := q D hDn
  generalize hz3 : ({ z2 with heap := z2.heap.push { cls := .type "dict", data := .dict #[] } } : Shared) = z3
  have I3 : Inv X pins σ (upd H2 D (.dT [])) z3 := by
    rw [← hz3]
    refine I2.laid (t' := z2.toks) (fun b o e => Heap.get?_push_of_some _ e) (Nat.le_of_eq hD) ?_
    rw [← hD]
    exact dt_empty z2.heap I2.big
  have h3 : z3.heap = z2.heap.push { cls := .type "dict", data := .dict #[] } := by rw [← hz3]
  have f3 : ∀ b ∈ fp, FpOk X pins (upd H2 D (.dT [])) b ∧ b < z3.heap.objs.size := fun b hb => by
    obtain ⟨o, e, _⟩ := T.obj _ _ st2 b hb
    have lt := Heap.lt_size e
    refine ⟨⟨?_, (f2 b hb).2⟩, by rw [h3, Heap.size_push]; exact Nat.lt_succ_of_lt lt⟩
    rw [upd_ne (by rw [← hD]; exact Nat.ne_of_lt lt)]
    exact (f2 b hb).1
  have st3 : tn 0 z3.heap := T.keep _ _ _ st2 fun b _ o e => by rw [h3]; exact Heap.get?_push_of_some _ e
  have I4 := block_start I3 ok nod f3
  generalize hcl : cellsFrom (z3.heap.objs.size + 1) scope.names (cloFrom X.env.cells scope.names []) = cl at I4
  have pg := hg z3 (upd H2 D (.dT [])) z3.heap.objs.size cl fp
  have pt := ht z3 (upd H2 D (.dT [])) z3.heap.objs.size cl fp
  have pk := hk z3 (upd H2 D (.dT [])) z3.heap.objs.size cl fp
  have pe := he z3 (upd H2 D (.dT [])) z3.heap.objs.size cl fp
  have goal : codeAny (model X.prog X.w) X.A (.compStart (.DictComp kx vx [⟨t0, i0, ifs, 0⟩] scope pos) 0 (.ref it) (.ref D) (compEnvC scope cl z3.heap.objs.size X.env)) (compPost (model X.prog X.w) X.A X.xe use Qf (.ref D) z3.heap.objs.size) { z3 with heap := pushCells (z3.heap.push { cls := .type "dict", data := .dict #[] }) scope.names } := by
    have nfp : ∀ b ∈ fp, (upd H2 D (.dT [])) b = none := fun b hb => (f3 b hb).1.1
    generalize hce : compEnvC scope cl z3.heap.objs.size X.env = ce at I4 pg pt pk pe ⊢
    have cL : ce.locals = z3.heap.objs.size := by subst hce; rfl
    generalize hH3 : upd H2 D (.dT []) = H3 at I3 I4 pg pt pk pe w0 nfp f3
    generalize hz4 : ({ z3 with heap := pushCells (z3.heap.push { cls := .type "dict", data := .dict #[] }) scope.names } : Shared) = z4 at I4 ⊢
    have st4 : tn 0 z4.heap := T.keep _ _ _ st3 fun b _ o e => by rw [← hz4]; exact pushCells_keeps _ _ _ _ (Heap.get?_push_of_some _ e)
    have stat : ∀ {σ' : L2.St} {H' : Hp} {z : Shared}, Inv (X.blk z3 H3 scope ce fp) [] σ' H' z → (∀ b ∈ fp, H' b = none) → ∀ b ∈ fp, FpOk (X.blk z3 H3 scope ce fp) [] H' b := fun {σ' H' z} J' hn b hb =>
      ⟨hn b hb, (J'.ok.exf b hb).1, J'.ok.exfs b hb, .inl hb, fun x c e => (J'.ok.exf b hb).2 x c e, fun p hp => absurd (show p ∈ ([] : List (Addr × Obj)) ++ [] from hp) List.not_mem_nil⟩
    have loop : codeAny (model X.prog X.w) X.A (.compLoop (.DictComp kx vx [⟨t0, i0, ifs, 0⟩] scope pos) 0 (.ref it) (.ref D) ce) (compPost (model X.prog X.w) X.A X.xe use Qf (.ref D) z3.heap.objs.size) z4 := by
      refine compLoop_anyD (fun n z => ∃ i H', Inv (X.blk z3 H3 scope ce fp) [] (wipe σ (own.map (·.2))) H' z ∧ tn i z.heap ∧ (∀ b ∈ fp, H' b = none) ∧ W i n H') ?_ m0 ⟨0, H3, I4, st4, nfp, w0⟩
      rintro n z5 ⟨i, H5, I5, st5, n5, w5⟩
      rcases turn i n H5 w5 with ⟨stop, qq⟩ | ⟨go, Nx, hNx, step⟩
      · refine thnF (T.done (X.blk z3 H3 scope ce fp) rfl rfl rfl calm i [] z5 _ H5 (fun _ _ => False) I5 (stat I5 n5) st5 stop) fun r z6 ⟨hr, I6⟩ => ?_
        subst hr
        have I7 : Inv X pins σ H5 z6 := I3.call' (ch := fp) I6.os I6.base I6.hok I6.bare fun b hb => ⟨(f3 b hb).1.2.2.2.1, (f3 b hb).1.2.1, (f3 b hb).1.2.2.2.2.1, (f3 b hb).1.2.2.2.2.2⟩
        have nC : H5 z3.heap.objs.size = none := by
          have e : H5 ce.locals = none := I6.free
          rwa [cL] at e
        obtain ⟨m, hn, _⟩ := I6.loc
        have hn : z6.heap.Ns ce.locals m := hn
        rw [cL] at hn
        exact back D z3.heap.objs.size z6 m H5 I7 qq hn (I3.fpOk (Nat.le_refl _) nC)
      · refine thnF (T.item (X.blk z3 H3 scope ce fp) rfl rfl rfl calm i [] z5 _ H5 (fun _ _ => False) I5 (stat I5 n5) st5 go) fun r z6 ⟨u, hr, h6⟩ => ?_
        subst hr
        refine thnF h6 fun _ z7 ⟨x, H7, I7, r7, y7, st7, n7⟩ => ?_
        have I7' := I7.pinned (stat I7 n7) (T.obj _ _ st7)
        refine thnF (pg.run _ z7 _ H7 x u _ I7' r7 (step x H7 y7)) fun _ z8 ⟨σ8, H8, I8, hw8, q8⟩ => ?_
        refine thnF (pt.run _ z8 σ8 H8 _ I8 q8) fun b z9 ⟨H9, I9, q9⟩ => ?_
        have fin : ∀ {z : Shared} {H' : Hp}, Inv (X.blk z3 H3 scope ce fp) ([] ++ pinsAt fp z7.heap) σ8 H' z → Nx H' →
            ∃ m, m < n ∧ ∃ i H', Inv (X.blk z3 H3 scope ce fp) [] (wipe σ (own.map (·.2))) H' z ∧ tn i z.heap ∧ (∀ b ∈ fp, H' b = none) ∧ W i m H' := fun {z H'} J' nx => by
          obtain ⟨m', hm, w'⟩ := hNx H' nx
          have pin : ∀ b ∈ fp, ∀ o, z7.heap.get? b = some o → z.heap.get? b = some o ∧ H' b = none := fun b hb o e => by
            have p := J'.pin (b, o) (List.mem_append_right _ (List.mem_append_right _ (mem_pinsAt hb e)))
            exact ⟨p.1, p.2.1⟩
          refine ⟨m', hm, i + 1, H', (J'.unpinned (pins := [])).weak (by rw [← hw8, wipe_length]) (fun j v e => by rw [← hw8] at e; exact (wipe_some e).1), T.keep _ _ _ st7 fun b hb o e => (pin b hb o e).1, fun b hb => ?_, w'⟩
          obtain ⟨o, e, _⟩ := T.obj _ _ st7 b hb
          exact (pin b hb o e).2
        cases b with
        | false => exact fin I9 q9
        | true =>
          refine thnF (pk.run _ z9 σ8 H9 _ I9 q9) fun zk z10 ⟨yk, H10, I10, r10, q10⟩ => ?_
          refine thnF (pe.run _ z10 σ8 H10 _ I10 q10) fun zv z11 ⟨yv, H11, I11, r11, put⟩ => ?_
          have I11 : Inv (X.blk z3 H3 scope ce fp) ([] ++ pinsAt fp z7.heap) σ8 H11 z11 := I11
          exact put_key (X := X.blk z3 H3 scope ce fp) I11 hu r10 r11 put fun z12 H12 I12 nx => fin I12 nx
    exact codeAny_compStart_dict loop (T.self X.A 0 _ _ _ st4 loop)
  subst hcl
  exact goal
theorem pe_dt {kx vx t0 i0 : Expr} {ifs : List Expr} {scope : Scope} {own : List (PySem.Str × Nat)} {pos : Pos} {wi : TI} {g : TG} {tt : L2.TT} {tk te : TE} (calm : X.calm = true) (hu : X.A.units + 64 < cLine) (nod : X.N.Nodup) (hi : PI X t0 i0 wi) (ok : BlkOk X.N X.env.scope scope own)
    (hg : ∀ (s : Shared) (H : Hp) (C : Addr) (cl : List (PySem.Str × Addr)) (fp : List Addr), PG (X.blk s H scope (compEnvC scope cl C X.env) fp) t0 g) (ht : ∀ (s : Shared) (H : Hp) (C : Addr) (cl : List (PySem.Str × Addr)) (fp : List Addr), PTs (X.blk s H scope (compEnvC scope cl C X.env) fp) ifs tt) (hk : ∀ (s : Shared) (H : Hp) (C : Addr) (cl : List (PySem.Str × Addr)) (fp : List Addr), PE (X.blk s H scope (compEnvC scope cl C X.env) fp) kx tk)
    (he : ∀ (s : Shared) (H : Hp) (C : Addr) (cl : List (PySem.Str × Addr)) (fp : List Addr), PE (X.blk s H scope (compEnvC scope cl C X.env) fp) vx te)
    (pl0 : ∀ x, foldedSetIterable i0 X.env x = pure x := by intro _; rfl) : PE X (.DictComp kx vx [⟨t0, i0, ifs, 0⟩] scope pos) (tDt wi g tt tk te (own.map (·.2))) := by
  refine ⟨fun pins s σ H Q I h => ?_⟩
  rw [arm_eval_DictComp]
  refine dt_core calm hu nod I hi ok hg ht hk he pl0 h fun D C z m H' I' q hn f => ⟨m, hn, fun _ sb => ?_⟩
  obtain ⟨f0, f1, f2, f3, f4, f5⟩ := f
  exact ⟨.ref D, H', I'.turned (t' := z.toks) (fun b o hb e => (sb.2 b hb).trans e) f0 f1 f3 f4 f5, rfl, q⟩
/-- over what walks -/
theorem dt_it {J : It} {n : Nat} {G : Hp → Prop} {Y : Nat → Hp → V → Hp → Prop} (wk : Walk J n G Y) {g : TG} {tt : L2.TT} {tk te : TE} {vs : List Nat} {σ : L2.St} {H1 : Hp} {D : Addr} {Qd : Hp → Prop} (Pv : Nat → Hp → Prop) (h0 : Pv 0 (upd H1 D (.dT []))) (hG : ∀ i H, i ≤ n → Pv i H → G H)
    (hs : ∀ i x H H', i < n → Pv i H → Y i H x H' → g x (wipe σ vs) H' fun σ2 H2 => wipe σ2 vs = wipe σ vs ∧ tt σ2 H2 fun b H3 => if b = true then tk σ2 H3 fun y H4 => te σ2 H4 fun v H5 => PutT D y v H5 (Pv (i + 1)) else Pv (i + 1) H3) (hd : ∀ H, Pv n H → Qd H) :
    ∃ W : Nat → Nat → Hp → Prop, (∃ m, W 0 m (upd H1 D (.dT []))) ∧ ∀ i m H, W i m H →
      (J.stop i H ∧ Qd H) ∨ (J.go i H ∧ ∃ Nx : Hp → Prop, (∀ H', Nx H' → ∃ m', m' < m ∧ W (i + 1) m' H') ∧ ∀ x H', J.yld i H x H' → g x (wipe σ vs) H' fun σ2 H2 => wipe σ2 vs = wipe σ vs ∧ tt σ2 H2 fun b H3 =>
        if b = true then tk σ2 H3 fun y H4 => te σ2 H4 fun v H5 => PutT D y v H5 Nx else Nx H3) := by
  refine ⟨fun i m H => m = n - i ∧ i ≤ n ∧ Pv i H, ⟨n, (Nat.sub_zero n).symm, Nat.zero_le n, h0⟩, fun i m H hw => ?_⟩
  obtain ⟨rfl, le, p⟩ := hw
  have stands := hG i H le p
  by_cases lt : i < n
  · exact .inr ⟨wk.goes i H lt stands, Pv (i + 1), fun H' p' => ⟨n - (i + 1), by omega, rfl, lt, p'⟩, fun x H' y => hs i x H H' lt p (wk.yields i H x H' lt stands y)⟩
  · obtain rfl : i = n := by omega
    exact .inl ⟨wk.stops H stands, hd H p⟩
end
end Ml
namespace Ml
open PySem PySem.Spec PyProof.Rows L2
/-! ### joins make a tree -/
section
variable {F : Nat → Nat → Int} {n : Nat}
theorem headD_of {k : List Nat} {m : Nat} (h : k.head? = some m) : k.headD 0 = m := by
  cases k with
  | nil => cases h
  | cons a r => exact Option.some.inj h
theorem mem_part (U : UlF F n) {l : Int} (h1 : 1 ≤ l) {i : Nat} (hi : i < n) {P : List Nat} : P ∈ partsN F n l (grp F n l i) ↔ ∃ y, y ∈ grp F n l i ∧ P = grp F n (l - 1) y := by
  have G := U.gr (show 0 ≤ l by omega)
  have G1 := U.gr (show 0 ≤ l - 1 by omega)
  have key : ∀ y, y < n → (P = grp F n (l - 1) y) → (P.headD 0 ∈ grp F n l i ↔ y ∈ grp F n l i) := fun y hy e => by
    obtain ⟨m, hm, _, hh⟩ := hd_mem (grp_ne G1 hy)
    rw [e, headD_of hh]
    obtain ⟨hmn, hle⟩ := mem_grp.mp hm
    have hy2 : y ∈ grp F n l m := mem_grp.mpr ⟨hy, by rw [U.sym]; omega⟩
    have hm2 : m ∈ grp F n l y := mem_grp.mpr ⟨hmn, by omega⟩
    exact ⟨fun z => by rw [← grp_same G hi z]; exact hy2, fun z => by rw [← grp_same G hi z]; exact hm2⟩
  unfold partsN
  rw [List.mem_filter, mem_gsL G1, decide_eq_true_iff]
  constructor
  · rintro ⟨⟨y, hy, e⟩, z⟩
    exact ⟨y, (key y hy e).mp z, e⟩
  · rintro ⟨y, hy, e⟩
    have hyn := (mem_grp.mp hy).1
    exact ⟨⟨y, hyn, e⟩, (key y hyn e).mpr hy⟩
theorem part_cov (U : UlF F n) {l : Int} (h1 : 1 ≤ l) {i : Nat} (hi : i < n) (x : Nat) : x ∈ grp F n l i ↔ ∃ P ∈ partsN F n l (grp F n l i), x ∈ P := by
  have G := U.gr (show 0 ≤ l by omega)
  have G1 := U.gr (show 0 ≤ l - 1 by omega)
  constructor
  · exact fun h => ⟨grp F n (l - 1) x, (mem_part U h1 hi).mpr ⟨x, h, rfl⟩, grp_self G1 (mem_grp.mp h).1⟩
  · rintro ⟨P, hP, hx⟩
    obtain ⟨y, hy, rfl⟩ := (mem_part U h1 hi).mp hP
    obtain ⟨hxn, hle⟩ := mem_grp.mp hx
    rw [← grp_same G hi hy]
    exact mem_grp.mpr ⟨hxn, by omega⟩
theorem parts_asc (F : Nat → Nat → Int) (n : Nat) (l : Int) (g : List Nat) : (partsN F n l g).Pairwise fun a b => hdI (iL a) < hdI (iL b) := by
  unfold partsN
  exact (List.pairwise_map.mp (gsL_asc F n (l - 1) n)).filter _
theorem parts_nd (U : UlF F n) {l : Int} (h1 : 1 ≤ l) {i : Nat} (hi : i < n) : (partsN F n l (grp F n l i)).flatten.Nodup := by
  have G1 := U.gr (show 0 ≤ l - 1 by omega)
  refine List.pairwise_flatten.mpr ⟨fun P hP => ?_, List.Pairwise.imp_of_mem (fun {a b} ha hb lt x hx y hy e => ?_) (parts_asc F n l (grp F n l i))⟩
  · obtain ⟨y, _, rfl⟩ := (mem_part U h1 hi).mp hP
    exact (grp_asc F n (l - 1) y).imp fun {a b} z e => by omega
  · subst e
    obtain ⟨y1, m1, rfl⟩ := (mem_part U h1 hi).mp ha
    obtain ⟨y2, m2, rfl⟩ := (mem_part U h1 hi).mp hb
    rw [← grp_same G1 (mem_grp.mp m1).1 hx, ← grp_same G1 (mem_grp.mp m2).1 hy] at lt
    exact Int.lt_irrefl _ lt
theorem parts_perm (U : UlF F n) {l : Int} (h1 : 1 ≤ l) {i : Nat} (hi : i < n) : (partsN F n l (grp F n l i)).flatten.Perm (grp F n l i) :=
  (List.perm_ext_iff_of_nodup (parts_nd U h1 hi) ((grp_asc F n l i).imp fun {a b} z e => by omega)).mpr fun x => by
    rw [List.mem_flatten, part_cov U h1 hi x]
theorem iL_perm {p q : List Nat} (h : p.Perm q) : (iL p).Perm (iL q) := h.map _
theorem iL_flat (L : List (List Nat)) : (L.map iL).flatten = iL L.flatten := by
  unfold iL
  rw [List.map_flatten]
theorem sorted_grp (U : UlF F n) {l : Int} (h1 : 1 ≤ l) {i : Nat} (hi : i < n) {ms : List Int} (srt : ms.Pairwise (· ≤ ·)) (perm : ms.Perm ((partsN F n l (grp F n l i)).map iL).flatten) : ms = iL (grp F n l i) := by
  rw [iL_flat] at perm
  have p2 : ms.Perm (iL (grp F n l i)) := perm.trans (iL_perm (parts_perm U h1 hi))
  have asc : (iL (grp F n l i)).Pairwise (· < ·) := List.pairwise_map.mpr ((grp_asc F n l i).imp fun {a b} z => by omega)
  refine p2.eq_of_pairwise (le := (· ≤ ·)) ?_ srt (asc.imp fun {a b} z => by omega)
  intro a b _ _ x y
  omega
/-- the join's cluster and its parts make a node -/
theorem join_node {t : List (List Int)} (hW : WT t) {i x : Nat} (hi : i < t.length) (hx : x < t.length) (ne : i ≠ x) :
    NodeOk (jtab t) (grp (jn t) t.length (jn t i x) i) (jn t i x) (partsN (jn t) t.length (jn t i x) (grp (jn t) t.length (jn t i x) i)) := by
  have U := jn_ulF hW
  have lvx : LvOk (jn t i x) := jn_pos hW hi hx ne
  have h1 : 1 ≤ jn t i x := lvx.1
  generalize hl : jn t i x = l at *
  have G := U.gr (show 0 ≤ l by omega)
  have G1 := U.gr (show 0 ≤ l - 1 by omega)
  have pm := parts_perm U h1 hi
  have nd : ∀ (k : Int) y, (grp (jn t) t.length k y).Nodup := fun k y => (grp_asc (jn t) t.length k y).imp fun {a b} z e => by omega
  have big : 2 ≤ (grp (jn t) t.length l i).length := by
    have := grp_two U hi hx ne
    rw [hl] at this
    omega
  refine ⟨part_cov U h1 hi, ?_, fun P hP => ?_, fun a b ha hb hab hd => ?_, lvx, big, ?_⟩
  · rw [← pm.length_eq, List.length_flatten]
  · obtain ⟨y, hy, rfl⟩ := (mem_part U h1 hi).mp hP
    have hyn := (mem_grp.mp hy).1
    refine ⟨List.length_pos_iff.mpr (grp_ne G1 hyn), ?_⟩
    obtain ⟨z, hz, hzP⟩ : ∃ z, z ∈ grp (jn t) t.length l i ∧ z ∉ grp (jn t) t.length (l - 1) y := by
      by_cases q : i ∈ grp (jn t) t.length (l - 1) y
      · refine ⟨x, mem_grp.mpr ⟨hx, by omega⟩, fun r => ?_⟩
        have a1 := (mem_grp.mp q).2
        have a2 := (mem_grp.mp r).2
        have a3 := U.tri i x y hi hx hyn
        rw [U.sym i y] at a3
        omega
      · exact ⟨i, grp_self G hi, q⟩
    have := List.Nodup.length_le_of_subset (l₁ := z :: grp (jn t) t.length (l - 1) y) (l₂ := grp (jn t) t.length l i) (List.nodup_cons.mpr ⟨hzP, nd _ _⟩) (fun w hw => by
      rcases List.mem_cons.mp hw with rfl | hw
      · exact hz
      · exact (part_cov U h1 hi w).mpr ⟨_, hP, hw⟩)
    rw [List.length_cons] at this
    omega
  · have han := (mem_grp.mp ha).1
    have hbn := (mem_grp.mp hb).1
    rw [jtab_lev hW han hbn]
    have le : jn t a b ≤ l := by
      have a3 := U.tri a b i han hbn hi
      rw [U.sym a i] at a3
      have a1 := (mem_grp.mp ha).2
      have a2 := (mem_grp.mp hb).2
      omega
    have nle : ¬ jn t a b ≤ l - 1 := fun q => hd (grp (jn t) t.length (l - 1) a) ((mem_part U h1 hi).mpr ⟨a, ha, rfl⟩) (grp_self G1 han) (mem_grp.mpr ⟨hbn, q⟩)
    omega
  · refine ⟨grp_asc _ _ _ _, ⟨⟨i, grp_self G hi, x, mem_grp.mpr ⟨hx, by omega⟩, by rw [jtab_lev hW hi hx]; exact hl⟩, fun a ha b hb => ?_⟩, fun P hP => ?_, fun a ha => (part_cov U h1 hi a).mp ha, ?_⟩
    · have han := (mem_grp.mp ha).1
      have hbn := (mem_grp.mp hb).1
      rw [jtab_lev hW han hbn]
      have a3 := U.tri a b i han hbn hi
      rw [U.sym a i] at a3
      have a1 := (mem_grp.mp ha).2
      have a2 := (mem_grp.mp hb).2
      omega
    · obtain ⟨y, hy, rfl⟩ := (mem_part U h1 hi).mp hP
      have hyn := (mem_grp.mp hy).1
      refine ⟨y, hy, asc_eq (grp_asc _ _ _ _) ((grp_asc _ _ _ _).filter _) fun b => ?_⟩
      rw [List.mem_filter, decide_eq_true_iff]
      constructor
      · intro hb
        obtain ⟨hbn, hle⟩ := mem_grp.mp hb
        rw [jtab_lev hW hyn hbn]
        exact ⟨(part_cov U h1 hi b).mpr ⟨_, hP, hb⟩, by omega⟩
      · rintro ⟨hb, lt⟩
        have hbn := (mem_grp.mp hb).1
        rw [jtab_lev hW hyn hbn] at lt
        exact mem_grp.mpr ⟨hbn, by omega⟩
    · have hd : ∀ k : List Nat, hdI (iL k) = ((k.headD 0 : Nat) : Int) := fun k => by cases k <;> rfl
      refine (parts_asc (jn t) t.length l (grp (jn t) t.length l i)).imp fun {p q} z => ?_
      rw [hd, hd] at z
      omega
/-- what has its tree after m joins -/
def Has (F : Nat → Nat → Int) (n : Nat) (js : List Jo) (m : Nat) (g : List Nat) : Prop := (∃ i, i < n ∧ g = [i]) ∨ ∃ i x, i < n ∧ x < n ∧ i ≠ x ∧ joinG F n (F i x) (grp F n (F i x) i) ∈ js.take m ∧ g = grp F n (F i x) i
theorem jo_fst (F : Nat → Nat → Int) (n : Nat) (l : Int) (g : List Nat) : (joinG F n l g).1 = l := rfl
theorem lower_before {js : List Jo} (asc : js.Pairwise JLt) {m : Nat} {j j' : Jo} (hj : js[m]? = some j) (hm : j' ∈ js) (lt : j'.1 < j.1) : j' ∈ js.take m := by
  obtain ⟨k, hk, e⟩ := List.getElem_of_mem hm
  have hml := (List.getElem?_eq_some_iff.mp hj).1
  have hje := (List.getElem?_eq_some_iff.mp hj).2
  have le : ∀ {p q : Jo}, JLt p q → p.1 ≤ q.1 := fun {p q} h => by
    rcases h with h | h
    · omega
    · omega
  have hkm : k < m := by
    rcases Nat.lt_trichotomy k m with h | h | h
    · exact h
    · subst h
      rw [e] at hje
      rw [hje] at lt
      exact absurd lt (Int.lt_irrefl _)
    · have := le (List.pairwise_iff_getElem.mp asc m k hml hk h)
      rw [hje, e] at this
      omega
  rw [← e]
  exact List.mem_of_getElem? (i := k) (by rw [List.getElem?_take_of_lt hkm, List.getElem?_eq_getElem hk])
/-- each part has its tree -/
theorem part_has (U : UlF F n) {js : List Jo} (asc : js.Pairwise JLt) (all : ∀ j, j ∈ js ↔ IsJ F n j) {m : Nat} {i x : Nat} (hi : i < n) (hx : x < n) (ne : i ≠ x) (hj : js[m]? = some (joinG F n (F i x) (grp F n (F i x) i)))
    {P : List Nat} (hP : P ∈ partsN F n (F i x) (grp F n (F i x) i)) : Has F n js m P := by
  have h1 : 1 ≤ F i x := U.pos i x hi hx ne
  have G1 := U.gr (show 0 ≤ F i x - 1 by omega)
  obtain ⟨y, hy, rfl⟩ := (mem_part U h1 hi).mp hP
  have hyn := (mem_grp.mp hy).1
  by_cases h2 : 1 < (grp F n (F i x - 1) y).length
  · obtain ⟨a, b, ha, hb, hab, e⟩ := cl_of_grp U (show 0 ≤ F i x - 1 by omega) hyn h2
    have e := iL_inj2 e
    refine .inr ⟨a, b, ha, hb, hab, lower_before asc hj ((all _).mpr ⟨a, b, ha, hb, hab, rfl⟩) ?_, e⟩
    rw [jo_fst, jo_fst]
    have pa := U.pos a b ha hb hab
    have a1 : a ∈ grp F n (F i x - 1) y := by rw [e]; exact grp_self (U.gr (by omega)) ha
    have a2 : b ∈ grp F n (F i x - 1) y := by rw [e]; exact mem_grp.mpr ⟨hb, Int.le_refl _⟩
    have b1 := (mem_grp.mp a1).2
    have b2 := (mem_grp.mp a2).2
    have b3 := U.tri a b y ha hb hyn
    rw [U.sym a y] at b3
    omega
  · refine .inl ⟨y, hyn, ?_⟩
    have m1 := grp_self G1 hyn
    cases eg : grp F n (F i x - 1) y with
    | nil => rw [eg] at m1; cases m1
    | cons a r =>
      rw [eg] at m1 h2
      cases r with
      | nil => rw [List.mem_singleton.mp m1]
      | cons b r => simp at h2
/-- in the end all items have theirs -/
theorem all_has (U : UlF F n) (h0 : 0 < n) {js : List Jo} (all : ∀ j, j ∈ js ↔ IsJ F n j) : Has F n js js.length (List.range n) := by
  by_cases h1 : n = 1
  · subst h1
    exact .inl ⟨0, by decide, rfl⟩
  · obtain ⟨b, hb, top⟩ := most_of (F 0) (List.range n) (fun e => by have := congrArg List.length e; rw [List.length_range] at this; simp at this; omega)
    have hbn := List.mem_range.mp hb
    have hb0 : 0 ≠ b := fun e => by
      have p := U.pos 0 1 h0 (by omega) (by decide)
      have q := top 1 (List.mem_range.mpr (by omega))
      rw [← e, U.diag 0 h0] at q
      omega
    refine .inr ⟨0, b, h0, hbn, hb0, ?_, ?_⟩
    · rw [List.take_length]
      exact (all _).mpr ⟨0, b, h0, hbn, hb0, rfl⟩
    · unfold grp
      refine (List.filter_eq_self.mpr fun j hj => decide_eq_true (top j hj)).symm
end
/-! ### the dict of trees -/
abbrev KK (g : List Nat) : List Key := g.map fun i : Nat => (Sum.inl (i : Int) : Key)
theorem KK_inj {p q : List Nat} (h : KK p = KK q) : p = q := List.map_inj_right (fun a b e => by
  have := Sum.inl.inj e
  omega) |>.mp h
theorem KK_kV (g : List Nat) : (KK g).map kV = (iL g).map V.int := by
  unfold KK iL
  rw [List.map_map, List.map_map]
  rfl
theorem Off.sqT' {K : PySem.W.Frag} {d a : Addr} {H H' : Hp} {kvs : List (List Key × V)} {xs : List V} (e : Off d H H') (hd : H d = some (.dT kvs)) (h : SqT K H a xs) : SqT K H' a xs := by
  rcases h with (q | ⟨o, q⟩) | q
  · exact .inl (.inl (e _ _ q (ne_of q hd fun z => by cases z)))
  · exact .inl (.inr ⟨o, e _ _ q (ne_of q hd fun z => by cases z)⟩)
  · exact .inr q
theorem Off.it' {K : PySem.W.Frag} {d : Addr} {H H' : Hp} {kvs : List (List Key × V)} {v : V} {ns : List Int} (e : Off d H H') (hd : H d = some (.dT kvs)) (h : IT K H v ns) : IT K H' v ns := by
  obtain ⟨p, h1, h2⟩ := h
  exact ⟨p, h1, e.sqT' hd h2⟩
theorem Off.tt' {K : PySem.W.Frag} {d : Addr} {H H' : Hp} {kvs : List (List Key × V)} {v : V} {t : List (List Int)} (e : Off d H H') (hd : H d = some (.dT kvs)) (h : TT K H v t) : TT K H' v t := by
  obtain ⟨p, vs, h1, h2, h3⟩ := h
  exact ⟨p, vs, h1, e.sqT' hd h2, h3.1, fun i u r a b => e.it' hd (h3.2 i u r a b)⟩
theorem Off.jt' {K : PySem.W.Frag} {d : Addr} {H H' : Hp} {kvs : List (List Key × V)} {v : V} {j : Jo} (e : Off d H H') (hd : H d = some (.dT kvs)) (h : JT K H v j) : JT K H' v j := by
  obtain ⟨p, qv, h1, h2, h3⟩ := h
  exact ⟨p, qv, h1, e.sqT' hd h2, e.tt' hd h3⟩
theorem TrV.off {K : PySem.W.Frag} {d : Addr} {H H' : Hp} {kvs : List (List Key × V)} {t : List (List Int)} {n : Nat} {S : List Nat} {v : V} (h : TrV K H t n S v) (e : Off d H H') (hd : H d = some (.dT kvs)) : TrV K H' t n S v := by
  induction h with
  | leaf n i hi => exact .leaf n i hi
  | node h hl _ ok ih => exact .node (e.sqT' hd h) hl ih ok
/-- the dict after m joins -/
def Trees (K : PySem.W.Frag) (H : Hp) (t : List (List Int)) (js : List Jo) (m : Nat) (kvs : List (List Key × V)) : Prop := kvs.length ≤ t.length + m ∧ ∀ g, Has (jn t) t.length js m g → ∃ v, valV kvs (KK g) = some v ∧ TrV K H (jtab t) (g.length - 1) g v
theorem Trees.same {K : PySem.W.Frag} {H H' : Hp} {t : List (List Int)} {js : List Jo} {m : Nat} {kvs : List (List Key × V)} (h : Trees K H t js m kvs) (e : Sm H H') : Trees K H' t js m kvs :=
  ⟨h.1, fun g hg => let ⟨v, a, b⟩ := h.2 g hg; ⟨v, a, b.same e⟩⟩
theorem Trees.off {K : PySem.W.Frag} {d : Addr} {H H' : Hp} {ls : List (List Key × V)} {t : List (List Int)} {js : List Jo} {m : Nat} {kvs : List (List Key × V)} (h : Trees K H t js m kvs) (e : Off d H H') (hd : H d = some (.dT ls)) : Trees K H' t js m kvs :=
  ⟨h.1, fun g hg => let ⟨v, a, b⟩ := h.2 g hg; ⟨v, a, b.off e hd⟩⟩
theorem Trees.put {K : PySem.W.Frag} {H : Hp} {t : List (List Int)} (hW : WT t) {js : List Jo} (asc : js.Pairwise JLt) {m : Nat} {kvs : List (List Key × V)} (h : Trees K H t js m kvs) {i x : Nat} (hi : i < t.length) (hx : x < t.length) (ne : i ≠ x)
    (hj : js[m]? = some (joinG (jn t) t.length (jn t i x) (grp (jn t) t.length (jn t i x) i))) {v : V} (hv : TrV K H (jtab t) ((grp (jn t) t.length (jn t i x) i).length - 1) (grp (jn t) t.length (jn t i x) i) v) :
    Trees K H t js (m + 1) (putK kvs (KK (grp (jn t) t.length (jn t i x) i)) v) := by
  refine ⟨?_, fun g hg => ?_⟩
  · have := length_putK kvs (KK (grp (jn t) t.length (jn t i x) i)) v
    have := h.1
    omega
  · rw [valV_put]
    by_cases e : KK g = KK (grp (jn t) t.length (jn t i x) i)
    · rw [if_pos e]
      rw [KK_inj e]
      exact ⟨v, rfl, hv⟩
    · rw [if_neg e]
      refine h.2 g ?_
      rcases hg with z | ⟨a, b, ha, hb, hab, mem, eg⟩
      · exact .inl z
      · refine .inr ⟨a, b, ha, hb, hab, ?_, eg⟩
        rw [List.take_add_one, hj] at mem
        rcases List.mem_append.mp mem with q | q
        · exact q
        · exfalso
          have q : joinG (jn t) t.length (jn t a b) (grp (jn t) t.length (jn t a b) a) = joinG (jn t) t.length (jn t i x) (grp (jn t) t.length (jn t i x) i) := List.mem_singleton.mp q
          have U := jn_ulF hW
          have l1 : jn t a b = jn t i x := congrArg Prod.fst q
          have l2 : (partsN (jn t) t.length (jn t a b) (grp (jn t) t.length (jn t a b) a)).map iL = (partsN (jn t) t.length (jn t i x) (grp (jn t) t.length (jn t i x) i)).map iL := congrArg Prod.snd q
          have l3 := congrArg List.flatten l2
          rw [iL_flat, iL_flat] at l3
          have l3 := iL_inj2 l3
          have p1 := parts_perm U (show 1 ≤ jn t a b from U.pos a b ha hb hab) ha
          have p2 := parts_perm U (show 1 ≤ jn t i x from U.pos i x hi hx ne) hi
          rw [l3] at p1
          have p3 := p1.symm.trans p2
          refine e (congrArg KK (eg.trans (p3.eq_of_pairwise (le := (· ≤ ·)) (fun a b _ _ x y => by omega) ((grp_asc _ _ _ _).imp fun {a b} z => by omega) ((grp_asc _ _ _ _).imp fun {a b} z => by omega))))
/-! a dict and a tuple of any standing -/
section
variable {X : Cx}
def tDSq (K : PySem.W.Frag) (td ty : TE) : TE := fun σ H Q => td σ H fun x H1 => ty σ H1 fun y H2 => ∃ (a b : Addr) (kvs : List (List Key × V)) (k : List Key) (v : V), x = .ref a ∧ y = .ref b ∧ H2 a = some (.dT kvs) ∧ SqT K H2 b (k.map kV) ∧ valV kvs k = some v ∧ Q v H2
theorem key_sq {pins : List (Addr × Obj)} {σ : L2.St} {H : Hp} {s : Shared} {b : Addr} {ks : List Key} (I : Inv X pins σ H s) (h : SqT X.K H b (ks.map kV)) : (tupleKind (mixKind X.prog X.w)).is s.heap ks b := by
  obtain ⟨its, r, ⟨o, ho, hc, m, hd⟩, _⟩ := I.tuple h
  exact ⟨o, its.toArray, m, ho, hc, hd, by simpa using items_are r⟩
theorem pe_dsq {o i : Expr} {pos : Pos} {td ty : TE} (hu : X.A.units + 1 < cLine) (ho : PE X o td) (hi : PE X i ty) (hs : NoSl i) : PE X (.Subscript o i pos) (tDSq X.K td ty) := by
  refine ⟨fun pins s σ H Q I h => ?_⟩
  refine subD_of PySem.F.slot_dict_getitem.lookup hs (thn (ho.run pins s σ H _ I h) fun u s1 ⟨x, H1, I1, rx, q1⟩ => thn (hi.run pins s1 σ H1 _ I1 q1) fun w s2 ⟨y, H2, I2, ry, a, b, kvs, k, v, ex, ey, hD, hb, hv, q2⟩ => ?_)
  subst ex ey
  cases (show u = Value.ref a from rx)
  cases (show w = Value.ref b from ry)
  obtain ⟨_, _, xs, rel, dd⟩ := dt_of I2.hok hD
  obtain ⟨w', hw, rw'⟩ := RelO.some_of (v := v) (o := (atKey xs k).map (·.2)) (by rw [← hv]; exact rel.val k)
  obtain ⟨p, hp, hp2⟩ := Option.map_eq_some_iff.mp hw
  refine ⟨dd.typeIs, wpAny_getItem_heap (tupleKind_room_in1 hu) (key_sq I2 hb) dd hp ?_⟩
  rw [hp2]
  exact ⟨v, H2, I2.tok _, rw', q2⟩
end
end Ml
namespace Ml
open PySem PySem.Spec PyProof.Rows L2
/-! ### the greatest and the least of a tuple of whole numbers -/
theorem foldI_max : ∀ (L : List Int) (x : Int), L.foldl max x ∈ x :: L ∧ ∀ y ∈ x :: L, y ≤ L.foldl max x
  | [], x => ⟨by simp, fun y hy => by rw [List.mem_singleton.mp hy]; exact Int.le_refl _⟩
  | a :: L, x => by
    obtain ⟨h1, h2⟩ := foldI_max L (max x a)
    rw [List.foldl_cons]
    have hm := h2 (max x a) (by simp)
    refine ⟨?_, fun y hy => ?_⟩
    · rcases List.mem_cons.mp h1 with e | e
      · rw [e]
        rcases Int.le_total x a with z | z
        · rw [Int.max_eq_right z]; simp
        · rw [Int.max_eq_left z]; simp
      · exact List.mem_cons_of_mem _ (List.mem_cons_of_mem _ e)
    · rcases List.mem_cons.mp hy with rfl | hy
      · omega
      rcases List.mem_cons.mp hy with rfl | hy
      · omega
      · exact h2 y (List.mem_cons_of_mem _ hy)
theorem alike_nums (ns : List Int) : PySem.W.AlikeAll (ns.map PyData.int) := by
  refine ⟨fun a ha b hb => ?_, fun a ha => ?_⟩
  · obtain ⟨x, _, rfl⟩ := List.mem_map.mp ha
    obtain ⟨y, _, rfl⟩ := List.mem_map.mp hb
    simp [PySem.W.alike]
  · obtain ⟨x, _, rfl⟩ := List.mem_map.mp ha
    exact fun h => by cases h
theorem reads_int {h : Heap} {v : Value} {z : Int} {bs : List Addr} (r : Reads h v (.int z) bs) : RelV (.int z) v := by
  cases r with
  | int => exact ⟨_, rfl⟩
section
variable {X : Cx}
def rMaxKT (K : PySem.W.Frag) : List V → List V → Hp → VK → Prop := fun vs zs H Q => ∃ (a : Addr) (ns : List Int) (dv : V), vs = [V.ref a] ∧ zs = [dv] ∧ SqT K H a (ns.map V.int) ∧ (ns = [] → Q dv H) ∧ ∀ m, m ∈ ns → (∀ y, y ∈ ns → y ≤ m) → Q (.int m) H
theorem crK_maxT (hc : X.calm = true) (hu : X.A.units + 64 < cLine) : CallRK X (.builtin "max") ["default"] (rMaxKT X.K) := by
  intro pins s σ H vs zs us ws Q I r rz h
  obtain ⟨a, ns, dv, rfl, rfl, hs, q0, q⟩ := h
  obtain ⟨its, rv, hl, _⟩ := I.tuple hs
  rw [Vals.ref1 r]
  obtain ⟨dw, rfl, rdw⟩ : ∃ dw, ws = [dw] ∧ RelV dv dw := by
    cases rz with
    | cons h t => cases t; exact ⟨_, rfl, h⟩
  obtain ⟨as, hr⟩ := Dp.readsAll I _ _ _ (dp_ints (K := X.K) (H := H) ns) rv
  show wpAny _ _ (call (.builtin "max") [.ref a] [(Str.ofString "default", dw)]) _ _ s
  refine PySem.W.max_tuple_default (I.ok.hd hc) (show s.heap.IsTuple a its.toArray from hl) (show ReadsAll s.heap its.toArray.toList _ as from hr) (alike_nums ns) (by rw [dep_ints]; omega) (fun e h' tk keep => ?_) (fun y ys i v h' tk bs e hv hrd keep => ?_)
  · exact ⟨dv, H, I.kept (t' := tk) keep, rdw, q0 (List.map_eq_nil_iff.mp e)⟩
  · cases ns with
    | nil => cases e
    | cons n ns =>
      obtain ⟨rfl, rfl⟩ := List.cons.inj e
      rw [PySem.W.maxD_ints] at hrd
      obtain ⟨m1, m2⟩ := foldI_max ns n
      exact ⟨.int _, H, I.kept (t' := tk) keep, reads_int hrd, q _ m1 m2⟩
end
end Ml
namespace Ml
open PySem PySem.Spec PyProof.Rows L2
/-! ### calls of defs that show something -/
theorem GOk.mono {P : Program} {w : World} {K : PySem.W.Frag} {mg : Str → Option Value} {base : Heap} {j k : Nat} {f : Addr} {fd : FuncData} {ps : List Str} {sp : Sp} (F : GOk P w K mg base j f fd ps sp) (h : j ≤ k) : GOk P w K mg base k f fd ps sp :=
  ⟨F.len, fun A outer s H args us vs Q E hg hr => F.go A outer s H args us vs Q E hg (hr.mono h)⟩
end Ml
namespace Ml
open PySem PySem.Spec PyProof.Rows L2
/-! ### one row more -/
theorem lev_app {t : List (List Int)} {row : List Int} {i j : Nat} (hi : i < t.length) (hj : j < t.length) : lev (t ++ [row]) i j = lev t i j := by
  unfold lev
  by_cases h : i = j
  · rw [if_pos h, if_pos h]
  · rw [if_neg h, if_neg h, List.getD_eq_getElem?_getD (l := t ++ [row]), List.getElem?_append_left (by omega), ← List.getD_eq_getElem?_getD]
theorem lev_last {t : List (List Int)} {row : List Int} {i : Nat} (hi : i < t.length) : lev (t ++ [row]) i t.length = row.getD i 0 := by
  unfold lev
  rw [if_neg (by omega), Nat.max_eq_right (by omega), Nat.min_eq_left (by omega), List.getD_eq_getElem?_getD (l := t ++ [row]), List.getElem?_append_right (by omega), Nat.sub_self]
  rfl
theorem even_snoc {t : List (List Int)} {row : List Int} : AllEven (t ++ [row]) ↔ AllEven t ∧ ∀ i j, i < j → j < t.length → Ev (t ++ [row]) i j t.length := by
  have hl : (t ++ [row]).length = t.length + 1 := by rw [List.length_append]; rfl
  constructor
  · intro h
    refine ⟨fun i j k hT => ?_, fun i j h1 h2 => h i j t.length ⟨h1, h2, by omega⟩⟩
    have := h i j k ⟨hT.1, hT.2.1, by have := hT.2.2; omega⟩
    unfold Ev at this ⊢
    rw [lev_app (by have := hT.1; have := hT.2; omega) (by have := hT.2; omega), lev_app (by have := hT.1; have := hT.2; omega) hT.2.2, lev_app (by have := hT.2; omega) hT.2.2] at this
    exact this
  · rintro ⟨h, g⟩ i j k ⟨h1, h2, h3⟩
    by_cases hk : k < t.length
    · have := h i j k ⟨h1, h2, hk⟩
      unfold Ev at this ⊢
      rw [lev_app (by omega) (by omega), lev_app (by omega) hk, lev_app (by omega) hk]
      exact this
    · obtain rfl : k = t.length := by omega
      exact g i j h1 h2
/-! ### one item more -/
def growR (t : List (List Int)) (near : Nat) (l : Int) : List Int := (List.range t.length).map fun k => max l (lev t near k)
def grow (t : List (List Int)) (near : Nat) (l : Int) : List (List Int) := t ++ [growR t near l]
theorem growR_len (t : List (List Int)) (near : Nat) (l : Int) : (growR t near l).length = t.length := by unfold growR; simp
theorem growR_at {t : List (List Int)} {near : Nat} {l : Int} {i : Nat} (hi : i < t.length) : (growR t near l).getD i 0 = max l (lev t near i) := by
  unfold growR
  rw [List.getD_eq_getElem?_getD, List.getElem?_map, List.getElem?_range hi]
  rfl
theorem growR_ok {t : List (List Int)} (hW : WT t) {near : Nat} {l : Int} (hn : near < t.length) (hl : LvOk l) : ∀ x ∈ growR t near l, LvOk x := by
  intro x hx
  obtain ⟨k, hk, rfl⟩ := List.mem_map.mp hx
  have hk := List.mem_range.mp hk
  by_cases e : near = k
  · subst e
    rw [lev_self]
    unfold LvOk at hl ⊢
    omega
  · have := hW.lev hn hk e
    unfold LvOk at hl this ⊢
    omega
theorem grow_wt {t : List (List Int)} (hW : WT t) {near : Nat} {l : Int} (hn : near < t.length) (hl : LvOk l) : WT (grow t near l) := hW.snoc (growR_len t near l) (growR_ok hW hn hl)
theorem grow_even {t : List (List Int)} (hW : WT t) (hU : Ultra t) {near : Nat} {l : Int} (hn : near < t.length) : AllEven (grow t near l) := by
  refine even_snoc.mpr ⟨even_of_ultra hU, fun i j h1 h2 => ?_⟩
  unfold Ev
  rw [lev_app (by omega) h2, lev_last (by omega), lev_last h2, growR_at (by omega), growR_at h2]
  have a := hU i near j (by omega) hn h2
  have b := hU near i j hn (by omega) h2
  have c := hU near j i hn h2 (by omega)
  rw [lev_comm t i near] at a
  rw [lev_comm t j i] at c
  unfold Ev3
  omega
theorem grow_ultra {t : List (List Int)} (hW : WT t) (hU : Ultra t) {near : Nat} {l : Int} (hn : near < t.length) (hl : LvOk l) : Ultra (grow t near l) := ultra_of_even (grow_wt hW hn hl) (grow_even hW hU hn)
/-! ### some of the items -/
def pick (t : List (List Int)) (its : List Nat) : List (List Int) := (List.range its.length).map fun a => (its.take a).map fun o => lev t (its.getD a 0) o
theorem pick_len (t : List (List Int)) (its : List Nat) : (pick t its).length = its.length := by unfold pick; simp
theorem pick_at {t : List (List Int)} {its : List Nat} {a : Nat} (h : a < its.length) : (pick t its).getD a [] = (its.take a).map fun o => lev t (its.getD a 0) o := by
  unfold pick
  rw [List.getD_eq_getElem?_getD, List.getElem?_map, List.getElem?_range h]
  rfl
theorem nat_getD {its : List Nat} {a : Nat} (h : a < its.length) : its[a]? = some (its.getD a 0) := by
  rw [List.getD_eq_getElem?_getD, List.getElem?_eq_getElem h]
  rfl
theorem nat_getD_mem {its : List Nat} {a : Nat} (h : a < its.length) : its.getD a 0 ∈ its := List.mem_of_getElem? (nat_getD h)
theorem nd_ne {its : List Nat} (nd : its.Nodup) {a b : Nat} (ha : a < its.length) (hb : b < its.length) (h : a ≠ b) : its.getD a 0 ≠ its.getD b 0 := fun e => by
  have e1 := nat_getD ha
  have e2 := nat_getD hb
  rw [e] at e1
  exact h ((List.getElem?_inj ha nd).mp (e1.trans e2.symm))
theorem pick_wt {t : List (List Int)} (hW : WT t) {its : List Nat} (nd : its.Nodup) (hi : ∀ x ∈ its, x < t.length) : WT (pick t its) := by
  intro a ns h
  have ha : a < its.length := by
    have := (List.getElem?_eq_some_iff.mp h).1
    rw [pick_len] at this
    exact this
  have e : ns = (pick t its).getD a [] := by
    rw [List.getD_eq_getElem?_getD, h]
    rfl
  rw [e, pick_at ha]
  refine ⟨by rw [List.length_map, List.length_take]; omega, fun x hx => ?_⟩
  obtain ⟨o, ho, rfl⟩ := List.mem_map.mp hx
  obtain ⟨b, hb, rfl⟩ := List.getElem_of_mem ho
  have hb' : b < a := by rw [List.length_take] at hb; omega
  rw [List.getElem_take]
  have e2 : its[b]'(by omega) = its.getD b 0 := by
    rw [List.getD_eq_getElem?_getD, List.getElem?_eq_getElem (by omega)]
    rfl
  rw [e2]
  exact hW.lev (hi _ (nat_getD_mem ha)) (hi _ (nat_getD_mem (by omega))) (nd_ne nd ha (by omega) (by omega))
/-- two tables are equal if their levels are -/
theorem tab_ext {t u : List (List Int)} (ht : WT t) (hu : WT u) (hl : t.length = u.length) (h : ∀ i j, j < i → i < t.length → lev t i j = lev u i j) : t = u := by
  refine List.ext_getElem? fun i => ?_
  by_cases hi : i < t.length
  · rw [List.getElem?_eq_getElem hi, List.getElem?_eq_getElem (by omega)]
    congr 1
    obtain ⟨l1, _⟩ := ht i _ (List.getElem?_eq_getElem hi)
    obtain ⟨l2, _⟩ := hu i _ (List.getElem?_eq_getElem (by omega))
    refine List.ext_getElem? fun j => ?_
    by_cases hj : j < i
    · have e := h i j hj hi
      unfold lev at e
      rw [if_neg (by omega), if_neg (by omega), Nat.max_eq_left (by omega), Nat.min_eq_right (by omega), List.getD_eq_getElem?_getD (l := t), List.getElem?_eq_getElem hi, List.getD_eq_getElem?_getD (l := u), List.getElem?_eq_getElem (by omega)] at e
      rw [getD_at (by omega), getD_at (by omega)]
      exact congrArg some e
    · rw [List.getElem?_eq_none (by omega), List.getElem?_eq_none (by omega)]
  · rw [List.getElem?_eq_none (by omega), List.getElem?_eq_none (by omega)]
end Ml
namespace Ml
open PySem PySem.Spec PyProof.Rows L2
/-! ### a dict of zip of two sequences, lists or tuples -/
def AIt : Bool → Heap → Addr → Addr → Nat → Prop
  | true, h, it, l, k => h.IsTupleIter it l k
  | false, h, it, l, k => h.IsListIter it l k
def ASq : Bool → Heap → Addr → Array Value → Prop
  | true, h, l, xs => h.IsTuple l xs
  | false, h, l, xs => h.IsList l xs
theorem AIt.at {b : Bool} {h h' : Heap} {it l : Addr} {k : Nat} (x : AIt b h it l k) (e : ∀ o, h.get? it = some o → h'.get? it = some o) : AIt b h' it l k := by
  cases b with
  | true => exact Heap.IsTupleIter.at x e
  | false => exact Heap.IsListIter.at x e
theorem ASq.at {b : Bool} {h h' : Heap} {l : Addr} {xs : Array Value} (x : ASq b h l xs) (e : ∀ o, h.get? l = some o → h'.get? l = some o) : ASq b h' l xs := by
  cases b with
  | true => exact Heap.IsTuple.at x e
  | false => exact Heap.IsList.at x e
theorem AIt.ex {b : Bool} {h h' : Heap} {it l c : Addr} {k : Nat} (x : AIt b h it l k) (e : Heap.ExtBut c h h') (ne : it ≠ c) : AIt b h' it l k := x.at fun o q => e _ _ ne q
theorem ASq.ex {b : Bool} {h h' : Heap} {l c : Addr} {xs : Array Value} (x : ASq b h l xs) (e : Heap.ExtBut c h h') (ne : l ≠ c) : ASq b h' l xs := x.at fun o q => e _ _ ne q
/-! ### zip of a tuple and a list -/
/-! ### a dict of zip of whole numbers and values -/
end Ml
namespace Ml
open PySem PySem.Spec PyProof.Rows L2
/-! ### len(set(t)), t a tuple of different whole numbers -/
def tLenSetT (K : PySem.W.Frag) (ta : TE) : TE := fun σ H Q => ta σ H fun x H1 => ∃ (l : Addr) (ns : List Int), x = .ref l ∧ SqT K H1 l (ns.map V.int) ∧ ns.Nodup ∧ ns.length ≤ 400 ∧ Q (.int (ns.length : Nat)) H1
theorem pe_lenSetT {X : Cx} {a : Expr} {ta : TE} {p p2 q pos : Pos} (hg : Gl X "len") (hm : X.mg "len" = none) (hg2 : Gl X "set") (hm2 : X.mg "set" = none) (ha : PE X a ta) (hc : X.calm = true := by rfl)
    (one : starEach [a] X.env = (false, eval a X.env) :: starEach [] X.env := by rfl) : PE X (.Call (.Name "len" p) [.Call (.Name "set" p2) [a] [] q] [] pos) (tLenSetT X.K ta) := by
  refine ⟨fun pins s σ H Q I h => Call_ (ld_blt I hg hm boot_len (PyProof.Rows.callWith_builtin1 (PyProof.Rows.args_cons (Call_ (ld_blt I hg2 hm2 boot_set ?_)) rfl) rfl rfl))⟩
  refine PyProof.Rows.callWith_type1 (PyProof.Rows.args_cons (thn (ha.run pins s σ H _ I h) fun v s1 ⟨x, H1, I1, r1, q1⟩ => PyProof.Rows.args_nil (?_ : _)) one) one rfl
  obtain ⟨l, ns, rfl, hs, nd, len, q1⟩ := q1
  cases r1
  obtain ⟨its, rv, pt, _⟩ := I1.tuple hs
  refine call_set_tupI ns (I1.ok.hd hc) (show s1.heap.IsTuple l its.toArray from pt) (RZ.intsAre_vals rv) (by unfold scanBound; omega) fun g tk c R _ hk => ?_
  refine PyProof.Rows.args_nil (?_ : _)
  obtain ⟨o, es, ep, tb, ho, ex, hd, _, kn, mem, _, fit, sz, _⟩ := R
  have e : es.size = ns.length := by
    have pm : (es.toList.map keyOf).Perm ns := (List.perm_ext_iff_of_nodup kn nd).mpr fun k => by rw [← mem k, decide_eq_true_iff]
    have := pm.length_eq
    rw [List.length_map, Array.length_toList] at this
    exact this
  have I2 : Inv X pins σ H1 { s1 with heap := g, toks := tk } := I1.kept hk
  exact call_len_set ho ex hd fit (by rw [e]; omega) ⟨.int ns.length, H1, I2.tok _, ⟨_, by rw [e]⟩, q1⟩
end Ml
namespace Ml
open PySem PySem.Spec PyProof.Rows L2
/-! ### own classes: what the top has written of them -/
structure ObC (K : PySem.W.Frag) (mg : Str → Option Value) (x : Str) (C : Addr) : Prop where
  g : mg x = some (.ref C)
  cl : Cls K C
  mk_ : PySem.W.makesIn K C = true
  kc : PySem.W.keepIn K (.ref C) = true
  ha : PySem.W.findIn K (.ref C) "__class__" = some (some (.builtin "object.__class__"))
  hn : PySem.W.specialIn K (.builtin "object.__class__") "__get__" = some (some (.builtin "getset_descriptor.__get__"))
  ht : PySem.W.takesIn K (.builtin "object.__class__") = some true
  hm : PySem.W.mroIn K C (.type "object") = some true
  tC : PySem.W.typeIn K (.ref C) = some (.type "type")
/-- a method -/
structure Md (K : PySem.W.Frag) (C : Addr) (m qual : Str) (st : Stmt) (f : Addr) (fd : FuncData) (ps : List Str) : Prop where
  M : Meth K C m f
  w : PySem.W.fnIn K f = true
  F : Fun K m qual st f fd
  b : Binds K fd ps []
/-- a property -/
structure Pd (K : PySem.W.Frag) (C : Addr) (m qual : Str) (st : Stmt) (f : Addr) (fd : FuncData) : Prop where
  P : ∃ p, PropOf K C m p f
  F : Fun K m qual st f fd
  b : Binds K fd ["self"] []
end Ml
namespace Ml
open PySem PySem.Spec PySem.Calls PyProof.Rows L2
/-! ### a, *b = a tuple -/
section
variable {prog : Program} {w : World} {A : Around} {E : Value → Shared → Prop} {s : Shared}
theorem unp_star {l : Addr} {items : Array Value} {n i : Nat} {Q : List Value → Shared → Prop} (hl : IsTup s.heap l items) (hh : A.handled = none) (hi : i < n) (hn : n ≤ items.size + 1) (hz : items.size ≤ 16384)
    (h : ∀ (h' : Heap) (tk : Nat), (∀ b o, s.heap.get? b = some o → h'.get? b = some o) → Q (items.toList.take i ++ [.ref h'.objs.size] ++ (items.toList.drop i).drop (items.size + 1 - n)) { s with heap := h'.push { cls := .type "list", data := .seq ((items.toList.drop i).take (items.size + 1 - n)).toArray }, toks := tk }) : wpAny (model prog w) A (unpackItems (.ref l) n (some i)) Q E s := by
  have hlt : l ≠ s.heap.objs.size := by obtain ⟨o, ho, _⟩ := hl; exact Nat.ne_of_lt (Heap.lt_size ho)
  have hll : l < s.heap.objs.size := by obtain ⟨o, ho, _⟩ := hl; exact Heap.lt_size ho
  unfold unpackItems
  refine wpAny_bind ?_
  unfold notIterableAtAll
  refine wpAny_bind (wpAny_specialOf hl.typeIs slot_tuple_iter.lookup ?_)
  refine wpAny_pure ?_
  simp only [Bool.false_eq_true, if_false]
  refine wpAny_bind (wpAny_holding (iter_tuple hl ?_))
  refine wpAny_bind (wpAny_holding (draw_tuple hlt i 0 _ _ ⟨_, Heap.get?_push_size _ rfl, rfl, rfl⟩ (hl.push _) (by omega) fun h₁ hit₁ hs₁ => ?_))
  have hl₁ : IsTup h₁ l items := (hl.push _).extBut hs₁.extBut hlt
  rw [Nat.zero_add] at hit₁
  have hit₁' := hit₁
  obtain ⟨oi, hoi, _⟩ := hit₁'
  have hl₁' := hl₁
  obtain ⟨ol, hol, _⟩ := hl₁'
  rw [List.drop_zero]
  have hfl : (items.toList.take i).length = i := by rw [List.length_take, Array.length_toList]; omega
  rw [if_neg (show ¬ ((items.toList.take i).length < i) by rw [hfl]; omega)]
  refine wpAny_bind (wpAny_holding (PySem.W.kun_collect (s := { s with heap := h₁ }) (T := "tuple_iterator") (.inr (.inr (.inr rfl))) (Walks.tuple (A := A.in1) hh s.heap.objs.size l hlt items) (fun j u st => st.1.typeIs) (k := i) (by omega) ⟨hit₁, hl₁⟩ (Heap.lt_size hoi) (Heap.lt_size hol) (fun h₂ tk hk => ?_) (by rw [sizeLine_eq]; omega)))
  have hrl : (items.toList.drop i).length = items.size - i := by rw [List.length_drop, Array.length_toList]
  have hmid : (items.toList.drop i).length - (n - 1 - i) = items.size + 1 - n := by rw [hrl]; omega
  show wpAny _ _ (if (items.toList.drop i).length < n - 1 - i then _ else _) _ _ _
  rw [if_neg (by rw [hrl]; omega)]
  show wpAny _ _ (newList ((items.toList.drop i).take ((items.toList.drop i).length - (n - 1 - i))) >>= fun d => pure (items.toList.take i ++ [d] ++ (items.toList.drop i).drop ((items.toList.drop i).length - (n - 1 - i)))) _ _ _
  rw [hmid]
  have he : ∀ b o, s.heap.get? b = some o → h₂.get? b = some o := fun b o e => hk b o (Nat.ne_of_lt (Heap.lt_size e)) (hs₁.extBut b o (Nat.ne_of_lt (Heap.lt_size e)) (Heap.get?_push_of_some _ e))
  exact wpAny_bind (wpAny_newList (s := { s with heap := h₂, toks := tk }) (wpAny_pure (h h₂ tk he)) (by rw [List.length_take, hrl, sizeLine_eq]; omega))
end
section
variable {X : Cx} {es : List Expr} {t : TGs} {u : TG} {n i : Nat} {pos : Pos}
theorem pgs_star {e : Expr} {p : Pos} (h1 : PG X e u) (h2 : PGs X es t)
    (hs : (assignEach (.Starred e p :: es) X.env).map (·.2) = assign e X.env :: (assignEach es X.env).map (·.2) := by rfl) : PGs X (.Starred e p :: es) (gCons u t) := by
  refine ⟨fun pins s σ H vs us Q I r h => ?_⟩
  obtain ⟨v, vr, e1, h⟩ := h
  subst e1
  cases r with
  | cons r rr =>
    rw [hs]
    refine assignInOrder_cons (thn (h1.run pins s σ H _ _ _ I r h) fun _ s1 ⟨σ1, H1, I1, q1⟩ => ?_)
    exact h2.run pins s1 σ1 H1 _ _ Q I1 rr q1
/-- one name starred, at the place i of n: the rest is a new list -/
def gTupS (K : PySem.W.Frag) (n i : Nat) (t : TGs) : TG := fun v σ H Q => ∃ a xs, v = .ref a ∧ SqT K H a xs ∧ i < n ∧ n ≤ xs.length + 1 ∧ xs.length ≤ 16384 ∧
  ∀ l, H l = none → t (xs.take i ++ [V.ref l] ++ (xs.drop i).drop (xs.length + 1 - n)) σ (upd H l (.lst ((xs.drop i).take (xs.length + 1 - n)))) Q
theorem vals_take {xs : List V} {us : List Value} (h : Vals xs us) (k : Nat) : Vals (xs.take k) (us.take k) := by
  induction h generalizing k with
  | nil => rw [List.take_nil, List.take_nil]; exact .nil
  | cons r _ ih =>
    cases k with
    | zero => exact .nil
    | succ k => exact .cons r (ih k)
theorem vals_drop {xs : List V} {us : List Value} (h : Vals xs us) (k : Nat) : Vals (xs.drop k) (us.drop k) := by
  induction h generalizing k with
  | nil => rw [List.drop_nil, List.drop_nil]; exact .nil
  | cons r q ih =>
    cases k with
    | zero => exact .cons r q
    | succ k => exact ih k
theorem pg_tupS {k : Nat} (hc : X.calm = true) (h : PGs X es t) (hn : (assignEach es X.env).length = n := by rfl) (hst : (assignEach es X.env).findIdx? (·.1) = some i := by rfl) : PG X (.Tuple es k pos) (gTupS X.K n i t) := by
  refine ⟨fun pins s σ H v u Q I r hw => ?_⟩
  obtain ⟨a, xs, rfl, hq, hi, hle, hz, hw⟩ := hw
  cases r
  obtain ⟨its, rv, ht, _⟩ := I.tuple hq
  have hl := rv.length
  have hsz : its.toArray.size = xs.length := by rw [List.size_toArray, hl]
  rw [assign_Tuple]
  refine wpAny_bind (wpAny_standAt ?_)
  unfold unpack
  rw [hn, hst]
  refine wpAny_bind (wpAny_holding (unp_star ht (I.ok.hd hc) hi (by rw [hsz]; exact hle) (by rw [hsz]; exact hz) fun h' tk keep => ?_))
  have I1 : Inv X pins σ H { s with heap := h', toks := tk } := I.kept keep
  rw [hsz, List.toList_toArray]
  have rm : Vals ((xs.drop i).take (xs.length + 1 - n)) ((its.drop i).take (xs.length + 1 - n)) := vals_take (vals_drop rv i) _
  have I2 : Inv X pins σ (upd H h'.objs.size (.lst ((xs.drop i).take (xs.length + 1 - n)))) { s with heap := h'.push { cls := .type "list", data := .seq ((its.drop i).take (xs.length + 1 - n)).toArray }, toks := tk } :=
    I1.laid (fun b o e => Heap.get?_push_of_some _ e) (Nat.le_refl _) ⟨by rw [List.length_take, List.length_drop, sizeLine_eq]; omega, _, 0, rm, Heap.get?_push_size _ rfl⟩
  have rr : Vals (xs.take i ++ [V.ref h'.objs.size] ++ (xs.drop i).drop (xs.length + 1 - n)) (its.take i ++ [Value.ref h'.objs.size] ++ (its.drop i).drop (xs.length + 1 - n)) := ((vals_take rv i).append (.cons (show RelV (V.ref h'.objs.size) (Value.ref h'.objs.size) from rfl) .nil)).append (vals_drop (vals_drop rv i) _)
  exact h.run pins _ σ _ _ _ Q I2 rr (hw h'.objs.size (I1.hok.fresh (Nat.le_refl _)))
end
end Ml
namespace Ml
open PySem PySem.Spec PySem.Calls PyProof.Rows L2
/-! ### o.m(e, ..), what is raised wished for at the caller's slots -/
section
variable {X : Cx} {k : Nat} {C f : Addr} {fd : FuncData} {ps : List Str} {sp : Sp} {W : WX} {m qual : Str} {st : Stmt} {o e : Expr} {es : List Expr} {ta : TE} {t : TA} {apos pos : Pos} {pl : Sem Bool}
theorem pe_m0 (D : Md X.K C m qual st f fd ps) (c : Cls X.K C) (G : FnOk X.prog X.w X.K X.mg X.base CX0 k f fd ps sp) (hr : Room k X.A) (he : PE X o ta)
    (ht : eval (.Call (.Attribute o m apos) [] [] pos) X.env = (do
      let ov ← eval o X.env
      standAt apos.atName
      let (f, first) ← holding [ov] (getMethod ov m pl)
      callWith pos f first (backTo pos (starEach [] X.env)) (backToKw pos (keywordEach [] X.env))) := by rfl) :
    PE X (.Call (.Attribute o m apos) [] [] pos) (tMeth C m sp [] E0 ta tNil) := pe_meth0 he c D.M G hr D.b .nil pass0 ht
end
end Ml
namespace Ml
open PySem PySem.Spec PySem.Calls PyProof.Rows L2
/-! ### own classes: what operators call -/
section
variable {X : Cx} {k : Nat} {C f : Addr} {fd : FuncData} {ps : List Str} {sp : Sp}
theorem run_dun {A : Around} {E' : Value → Shared → Prop} {pins : List (Addr × Obj)} {σ : L2.St} {H : Hp} {s : Shared} {us : List Value} {vs : List V} {Q : VK} (F : FnOk X.prog X.w X.K X.mg X.base CX0 k f fd ps sp) (hr : Room k A) (e0 : Env0 X.prog X.w X.K X.mg X.base A X.stack s H) (hb : Binds X.K fd ps [])
    (I : Inv X pins σ H s) (r : Vals vs us) (h : sp vs H Q E0) : wpAny (model X.prog X.w) A (call (.ref f) us) (fun u s' => ∃ v H', Inv X pins σ H' s' ∧ RelV v u ∧ Q v H') E' s := by
  have hl : us.length = ps.length := by rw [← r.length]; exact F.len _ _ _ _ h
  have b := hb s us I.kIn (by rw [List.append_nil]; exact hl)
  rw [List.append_nil] at b
  refine wpAny_call (codeAny_mono (F.run A X.stack s H ⟨us, []⟩ us vs Q E0 hr e0 b r h) fun r s' hq => ?_)
  cases r with
  | error e => exact (show False from hq).elim
  | ok fl =>
    cases fl with
    | ret u =>
      obtain ⟨v, H', I3, rv, q3⟩ := I.after hq
      exact ⟨v, H', I3, rv, q3⟩
    | next => exact False.elim hq
    | brk => exact False.elim hq
    | cont => exact False.elim hq
/-- len(o) by an own __len__ -/
def rLenO (C : Addr) (sp : Sp) : List V → Hp → VK → Prop := fun xs H Q => ∃ a dx fs, xs = [.ref a] ∧ H a = some (.ins C dx fs) ∧ sp [.ref a] H (fun v H' => ∃ n : Int, v = .int n ∧ (0 ≤ n ∧ n < 2 ^ 63) ∧ Q (.int n) H') E0
theorem call_lenO {qual : Str} {st : Stmt} (D : Md X.K C "__len__" qual st f fd ps) (G : FnOk X.prog X.w X.K X.mg X.base CX0 k f fd ps sp) (hr : Room (k + 1) X.A) : CallR X (.builtin "len") (rLenO C sp) := by
  intro pins s σ H xs us Q I r h
  obtain ⟨a, dx, fs, rfl, ea, q⟩ := h
  obtain ⟨u, rfl, ru⟩ := r.one
  cases ru
  obtain ⟨mA, O, _⟩ := ins_get I.hok ea
  obtain ⟨od, J, _⟩ := O.look
  obtain ⟨m, hF⟩ := I.fr
  refine PySem.W.len_K hF I.ok.mod.kin J D.M.at_ D.M.fn (wpAny_mono (run_dun (us := [.ref a]) (vs := [.ref a]) G hr.in1 I.env0.in1 D.b I (.cons rfl .nil) q) (fun u s' hq => ?_) fun _ _ z => z)
  obtain ⟨v, H', I', rv, n, rfl, hn, q'⟩ := hq
  obtain ⟨t, rfl⟩ := rv
  exact ⟨hn, .int n, H', I'.tok _, ⟨_, rfl⟩, q'⟩
/-- o == p, two instances of a class with an own __eq__ -/
def rEqO (C : Addr) (sp : Sp) : R2 := fun x y H Q => ∃ a b dx dy fs gs, x = .ref a ∧ y = .ref b ∧ H a = some (.ins C dx fs) ∧ H b = some (.ins C dy gs) ∧ sp [.ref a, .ref b] H (fun v H' => ∃ k, v = .bl k ∧ Q (.bl k) H') E0
theorem op_eqO {qual : Str} {st : Stmt} (D : Md X.K C "__eq__" qual st f fd ps) (G : FnOk X.prog X.w X.K X.mg X.base CX0 k f fd ps sp) (hr : Room k X.A) : OpR X (compareOp .Eq) (rEqO C sp) := by
  intro pins s σ H x y u v Q I rx ry h
  obtain ⟨a, b, dx, dy, fs, gs, rfl, rfl, ha, hb', q⟩ := h
  cases rx
  cases ry
  obtain ⟨mA, J, _⟩ := ins_get I.hok ha
  obtain ⟨mB, J', _⟩ := ins_get I.hok hb'
  obtain ⟨od, J, _⟩ := J.look
  obtain ⟨od', J', _⟩ := J'.look
  obtain ⟨m, hF⟩ := I.fr
  show wpAny (model X.prog X.w) X.A (richCompare .Eq (.ref a) (.ref b)) (EP X pins σ Q) X.xe s
  refine PySem.W.cmp_K (op := .Eq) (tb := .ref C) hr.units0 hF I.ok.mod.kin J J'.type (by simp [PySem.W.notFirst]) D.M.at_ D.M.fn (wpAny_mono (run_dun (us := [.ref a, .ref b]) (vs := [.ref a, .ref b]) G hr I.env0 D.b I (.cons rfl (.cons rfl .nil)) q) (fun u s' hq => ?_) fun _ _ z => z)
  obtain ⟨v, H', I', rv, k, rfl, q'⟩ := hq
  cases rv
  exact ⟨.bl k, H', I', rfl, q'⟩
end
end Ml
namespace Ml
open PySem PySem.Spec PyProof.Rows L2
section
variable {X : Cx} {CX : CXT} {k : Nat} {f C : Addr} {fd : FuncData} {ps : List Str} {sp : Sp} {E : XK} {x : Str} {p pos : Pos} {e : Expr} {es : List Expr} {tf : TE} {t : TA} {dvs : List V} {ds : List Value}
/-- x(..), x a name that holds a class -/
def tMakeL (C : Addr) (sp : Sp) (dvs : List V) (E : XK) (tf : TE) (t : TA) : TE := fun σ H Q => tf σ H fun c H1 => c = .ref C ∧ tMake C sp dvs E t σ H1 Q
theorem pe_makeL (M : Mk X.K C f) (F : FnOk X.prog X.w X.K X.mg X.base CX k f fd ps sp) (hr : Room (k + 1) X.A) (hf : PE X (.Name x p) tf) (hb : Binds X.K fd ps ds) (hd : Vals dvs ds) (hx : Passes CX X E)
    (ha : PA X (e :: es) t) (he : starEach (e :: es) X.env = (false, eval e X.env) :: starEach es X.env := by rfl) (hpl : (backTo pos (starEach es X.env)).any (·.1) = false := by rfl) :
    PE X (.Call (.Name x p) (e :: es) [] pos) (tMakeL C sp dvs E tf t) := by
  refine ⟨fun pins s σ H Q I h => ?_⟩
  refine wpAny_Call_Name_kw (thn (hf.run pins s σ H _ I h) fun u s1 ⟨c, H1, I1, rc, ec, q1⟩ => ?_)
  subst ec
  obtain rfl : u = Value.ref C := rc
  refine PySem.W.callWith_K (h₀ := X.base) I.ok.mod.kin M.kp (thn (ha.run pos pins s1 σ H1 _ I1 q1) fun us s2 ⟨vs, H2, I2, r, q⟩ => ⟨I2.kIn, ?_⟩) he hpl
  exact run_make M F hr hb hd hx I2 r q
end
end Ml
namespace Ml
open PySem PySem.Spec PyProof.Rows L2
/-! ### the head by a run in the kernel: facts of the written part, found by names -/
abbrev Ft : Type := PySem.W.Frag → Bool
/-- a def, a method, a property's function: where it stands, what it is -/
structure DefE where
  ad : PySem.W.Frag → Addr
  name : Str
  qual : Str
  params : Arguments
  body : List Stmt
  scope : Scope
def DefE.obs (K : PySem.W.Frag) (d : DefE) : He.FnV := match K.lookup (d.ad K) with
  | some ⟨_, _, .func fd, _⟩ => some (fd.name, fd.qualname, fd.params, fd.body, fd.scope, fd.globals, fd.closure, fd.defaults, fd.builtins)
  | _ => none
def DefE.val (d : DefE) : He.FnV := some (d.name, d.qual, d.params, .stmts d.body, d.scope, mainGlobals, [], .none, builtinsNs)
def DefE.ok (K : PySem.W.Frag) (d : DefE) : Bool := match K.lookup (d.ad K) with
  | some ⟨_, _, .func fd, _⟩ => PySem.W.codeIn K fd.code d.qual
  | _ => false
theorem DefE.at_ {K : PySem.W.Frag} {d : DefE} (e : d.obs K = d.val) (c : d.ok K = true) :
    ∃ oc od osl kV doc pm an cdv ct, K.lookup (d.ad K) = some ⟨oc, od, .func (PySem.W.fnOf d.name d.qual d.params d.body d.scope .none kV doc pm an cdv ct), osl⟩ ∧ PySem.W.codeIn K cdv d.qual = true := by
  unfold DefE.obs at e
  unfold DefE.ok at c
  cases q : K.lookup (d.ad K) with
  | none =>
    rw [q] at c
    cases c
  | some o =>
    obtain ⟨oc, od, dt, osl⟩ := o
    rw [q] at c e
    cases dt with
    | func fd =>
      obtain ⟨n1, n2, n3, n4, n5, n6, n7, n8, n9, n10, n11, n12, n13, n14, n15⟩ := fd
      have e2 : (some (n1, n2, n3, n4, n5, n6, n7, n8, n15) : He.FnV) = some (d.name, d.qual, d.params, .stmts d.body, d.scope, mainGlobals, [], .none, builtinsNs) := e
      simp only [Option.some.injEq, Prod.mk.injEq] at e2
      obtain ⟨h1, h2, h3, h4, h5, h6, h7, h8, h9⟩ := e2
      subst h1 h2 h3 h4 h5 h6 h7 h8 h9
      exact ⟨oc, od, osl, n9, n10, n11, n12, n13, n14, rfl, c⟩
    | _ => cases c
abbrev Al2 : Type := Bool × List He.FnV
def obs2 (fs : List (List Ft)) (fn : List DefE) (K : PySem.W.Frag) : Al2 := ((fs.all fun l => l.all fun f => f K) && fn.all fun d => d.ok K, fn.map fun d => d.obs K)
def val2 (fn : List DefE) : Al2 := (true, fn.map DefE.val)
def Says2 (fs : List (List Ft)) (fn : List DefE) (K : PySem.W.Frag) : Prop := obs2 fs fn K = val2 fn
/-- what an object names: no built-in, no class's bases (they are the module's names themselves) -/
def refsF (o : Obj) : List Addr := match o.data with
  | .seq its _ => its.toList.flatMap He.refV
  | .dict es _ => es.toList.flatMap fun e => He.refV e.val
  | .func fd => He.refV fd.code ++ He.refV fd.defaults ++ He.refV fd.kwdefaults
  | .cls cd => [cd.ns]
  | .fields vs => vs.toList.flatMap He.refV
  | _ => []
def froF (g : Addr → Option Obj) (as : List Addr) : List Addr := as.flatMap fun a => match g a with
  | some o => refsF o
  | none => []
/-- level by level, nothing twice but by chance -/
def asF (g : Addr → Option Obj) : Nat → List Addr → List Addr
  | 0, as => as
  | n + 1, as => as ++ asF g n (froF g as)
def kG (n : Nat) (g : Addr → Option Obj) : PySem.W.Frag := He.frG g (cStatics :: asF g n [mainGlobals])
def kOf (n : Nat) (s : PySem.W.SharedT) : PySem.W.Frag := kG n (HandSHeadRun.getT s)
def obsG2 (n : Nat) (fs : List (List Ft)) (fn : List DefE) (g : Addr → Option Obj) : Al2 := obs2 fs fn (kG n g)
def hook2 (n : Nat) (fs : List (List Ft)) (fn : List DefE) : PySem.W.Hook where
  α := Al2
  obs := fun s => obsG2 n fs fn s.heap.get?
  val := fun _ => val2 fn
  says := fun _ h => ∃ K : PySem.W.Frag, K.In h ∧ Says2 fs fn K
  of := fun _ _ e => ⟨_, He.frG_in, e⟩
  keeps := fun _ _ _ ⟨K, hK, c⟩ k => ⟨K, PySem.W.Frag.In.keeps hK k, c⟩
def ob2 (n : Nat) (fs : List (List Ft)) (fn : List DefE) (s : PySem.W.SharedT) : Al2 := obsG2 n fs fn (HandSHeadRun.getT s)
/-- the run of the top, looked at part by part: each part a run of its own -/
theorem run_of {r : PySem.W.OpenRow} {q : Program} {n M : Nat} {fs : List (List Ft)} {fn : List DefE} {loose : List Str} {w : World}
    (hA : ∀ os : OsState, (HandSHeadRun.endF (HandSHeadRun.stepQ (HandSHeadRun.denQ HandSHeadRun.tabQ) r.prog w) M r.prog w os).map (fun s => HandSHeadRun.looksF r.prog (PySem.W.boot_heap w.params) s.abs) = some true)
    (hB : ∀ os : OsState, (HandSHeadRun.endF (HandSHeadRun.stepQ (HandSHeadRun.denQ HandSHeadRun.tabQ) r.prog w) M r.prog w os).map (fun s => HandSHeadRun.seenQ q loose (PySem.importedModules r.prog.main.body) (fun s => PySem.W.xlAt q [] s && PySem.W.recOk r.toRowW.records s) s.abs) = some (PySem.W.openGood q loose))
    (hF : ∀ l ∈ fs, ∀ os : OsState, (HandSHeadRun.endF (HandSHeadRun.stepQ (HandSHeadRun.denQ HandSHeadRun.tabQ) r.prog w) M r.prog w os).map (fun s => l.all fun f => f (kOf n s)) = some true)
    (hD : ∀ os : OsState, (HandSHeadRun.endF (HandSHeadRun.stepQ (HandSHeadRun.denQ HandSHeadRun.tabQ) r.prog w) M r.prog w os).map (fun s => (fn.all fun d => d.ok (kOf n s), fn.map fun d => d.obs (kOf n s))) = some (true, fn.map DefE.val)) :
    HandSHeadRun.RunEq r q (hook2 n fs fn) (ob2 n fs fn) M loose w := fun os => by
  obtain ⟨s, hs, h1⟩ := Option.map_eq_some_iff.mp (hA os)
  have h2 := hB os
  have h4 := hD os
  rw [hs] at h2 h4 ⊢
  have h2 := Option.some.inj h2
  have h4 := Option.some.inj h4
  have h3 : (fs.all fun l => l.all fun f => f (kOf n s)) = true := List.all_eq_true.mpr fun l hl => by
    have h3 := hF l hl os
    rw [hs] at h3
    exact Option.some.inj h3
  have h4a := congrArg Prod.fst h4
  have h4b := congrArg Prod.snd h4
  have h5 : ob2 n fs fn s = val2 fn := by
    show (((fs.all fun l => l.all fun f => f (kOf n s)) && fn.all fun d => d.ok (kOf n s), fn.map fun d => d.obs (kOf n s)) : Al2) = (true, fn.map DefE.val)
    rw [h3, show (fn.all fun d => d.ok (kOf n s)) = true from h4a, show (fn.map fun d => d.obs (kOf n s)) = fn.map DefE.val from h4b]
    rfl
  exact congrArg some (Prod.ext h1 (Prod.ext h2 h5))
section
variable {fs : List (List Ft)} {fn : List DefE} {K : PySem.W.Frag}
theorem Says2.fact (c : Says2 fs fn K) (i j : Nat) {l : List Ft} {f : Ft} (hi : fs[i]? = some l := by rfl) (hj : l[j]? = some f := by rfl) : f K = true := by
  have c1 := (He.ba (show ((fs.all fun l => l.all fun f => f K) && fn.all fun d => d.ok K) = true from congrArg (fun z : Al2 => z.1) c)).1
  exact List.all_eq_true.mp (List.all_eq_true.mp c1 l (List.mem_of_getElem? hi)) f (List.mem_of_getElem? hj)
theorem Says2.def_ (c : Says2 fs fn K) (i : Nat) {d : DefE} (h : fn[i]? = some d := by rfl) :
    ∃ oc od osl kV doc pm an cdv ct, K.lookup (d.ad K) = some ⟨oc, od, .func (PySem.W.fnOf d.name d.qual d.params d.body d.scope .none kV doc pm an cdv ct), osl⟩ ∧ PySem.W.codeIn K cdv d.qual = true := by
  have c2 := (He.ba (show ((fs.all fun l => l.all fun f => f K) && fn.all fun d => d.ok K) = true from congrArg (fun z : Al2 => z.1) c)).2
  have e : fn.map (fun d => d.obs K) = fn.map DefE.val := congrArg (fun z : Al2 => z.2) c
  have e2 : (fn.map fun d => d.obs K)[i]? = (fn.map DefE.val)[i]? := by rw [e]
  rw [List.getElem?_map, List.getElem?_map, h] at e2
  exact DefE.at_ (Option.some.inj e2) (List.all_eq_true.mp c2 d (List.mem_of_getElem? h))
end
/-! ### what a fact names, as a function of the written part -/
def tkG (K : PySem.W.Frag) (x : Str) : Tok := match PySem.W.nsIn K mainGlobals x with
  | some (some (.int _ t)) => t
  | _ => 0
def tkC (K : PySem.W.Frag) (C : Addr) (x : Str) : Tok := match PySem.W.findIn K (.ref C) x with
  | some (some (.int _ t)) => t
  | _ => 0
def prF (K : PySem.W.Frag) (p : Addr) : Addr := match PySem.W.recIn K p "property" with
  | some (.ref f :: _) => f
  | _ => 0
def prR (K : PySem.W.Frag) (p : Addr) : List Value := match PySem.W.recIn K p "property" with
  | some (_ :: r) => r
  | _ => []
/-! ### a dict of the module with texts as keys: its hashes hang on the world -/
/-! ### the same head, with what hangs on the world -/
abbrev Al3 : Type := Al2 × List Int
def obsG3 (n : Nat) (fs : List (List Ft)) (fn : List DefE) (hx : PySem.W.Frag → List Int) (g : Addr → Option Obj) : Al3 := (obs2 fs fn (kG n g), hx (kG n g))
def hook3 (n : Nat) (fs : List (List Ft)) (fn : List DefE) (hx : PySem.W.Frag → List Int) (hv : World → List Int) : PySem.W.Hook where
  α := Al3
  obs := fun s => obsG3 n fs fn hx s.heap.get?
  val := fun w => (val2 fn, hv w)
  says := fun w h => ∃ K : PySem.W.Frag, K.In h ∧ Says2 fs fn K ∧ hx K = hv w
  of := fun _ _ e => ⟨_, He.frG_in, congrArg (fun z : Al3 => z.1) e, congrArg (fun z : Al3 => z.2) e⟩
  keeps := fun _ _ _ ⟨K, hK, c⟩ k => ⟨K, PySem.W.Frag.In.keeps hK k, c⟩
def ob3 (n : Nat) (fs : List (List Ft)) (fn : List DefE) (hx : PySem.W.Frag → List Int) (s : PySem.W.SharedT) : Al3 := obsG3 n fs fn hx (HandSHeadRun.getT s)
theorem ob3_eq {n : Nat} {fs : List (List Ft)} {fn : List DefE} {hx : PySem.W.Frag → List Int} {hv : World → List Int} (s : PySem.W.SharedT) : ob3 n fs fn hx s = (hook3 n fs fn hx hv).obs s.abs := by
  have e : HandSHeadRun.getT s = s.abs.heap.get? := funext (HandSHeadRun.getT_eq s)
  show obsG3 n fs fn hx (HandSHeadRun.getT s) = obsG3 n fs fn hx s.abs.heap.get?
  rw [e]
theorem run_of3 {r : PySem.W.OpenRow} {q : Program} {n M : Nat} {fs : List (List Ft)} {fn : List DefE} {hx : PySem.W.Frag → List Int} {hv : World → List Int} {loose : List Str} {w : World}
    (hA : ∀ os : OsState, (HandSHeadRun.endF (HandSHeadRun.stepQ (HandSHeadRun.denQ HandSHeadRun.tabQ) r.prog w) M r.prog w os).map (fun s => HandSHeadRun.looksF r.prog (PySem.W.boot_heap w.params) s.abs) = some true)
    (hB : ∀ os : OsState, (HandSHeadRun.endF (HandSHeadRun.stepQ (HandSHeadRun.denQ HandSHeadRun.tabQ) r.prog w) M r.prog w os).map (fun s => HandSHeadRun.seenQ q loose (PySem.importedModules r.prog.main.body) (fun s => PySem.W.xlAt q [] s && PySem.W.recOk r.toRowW.records s) s.abs) = some (PySem.W.openGood q loose))
    (hF : ∀ l ∈ fs, ∀ os : OsState, (HandSHeadRun.endF (HandSHeadRun.stepQ (HandSHeadRun.denQ HandSHeadRun.tabQ) r.prog w) M r.prog w os).map (fun s => l.all fun f => f (kOf n s)) = some true)
    (hD : ∀ os : OsState, (HandSHeadRun.endF (HandSHeadRun.stepQ (HandSHeadRun.denQ HandSHeadRun.tabQ) r.prog w) M r.prog w os).map (fun s => ((fn.all fun d => d.ok (kOf n s), fn.map fun d => d.obs (kOf n s)), hx (kOf n s))) = some ((true, fn.map DefE.val), hv w)) :
    HandSHeadRun.RunEq r q (hook3 n fs fn hx hv) (ob3 n fs fn hx) M loose w := fun os => by
  have hR := run_of (fn := fn) hA hB hF (fun os => by
    obtain ⟨s, hs, h1⟩ := Option.map_eq_some_iff.mp (hD os)
    rw [hs]
    exact congrArg some (congrArg (fun z => z.1) h1)) os
  obtain ⟨s, hs, h1⟩ := Option.map_eq_some_iff.mp (hA os)
  have h4 := hD os
  rw [hs] at hR h4 ⊢
  have h4 := congrArg (fun z => z.2) (Option.some.inj h4)
  have h5 := Option.some.inj hR
  have h6 := congrArg (fun z => z.1) h5
  have h7 := congrArg (fun z => z.2.1) h5
  have h8 := congrArg (fun z => z.2.2) h5
  exact congrArg some (Prod.ext h6 (Prod.ext h7 (Prod.ext h8 h4)))
end Ml
namespace Ml
open PySem PySem.Spec PyProof.Rows L2
def topS (i : Nat) : Stmt := PySem.Challenge.pw_mergelevels_k80_whole_texts_there_and_ba.main.body.getD i (.Pass ⟨0, 0, 0, 0⟩)
abbrev s_is_whole : Stmt := topS 10
abbrev N_is_whole : List Str := ["value"]
theorem sc_is_whole : FnScope N_is_whole ["value"] (defScope s_is_whole) := ⟨rfl, rfl, rfl, by decide +kernel, rfl, by decide +kernel, by decide +kernel⟩
abbrev s_is_level : Stmt := topS 11
abbrev N_is_level : List Str := ["value"]
theorem sc_is_level : FnScope N_is_level ["value"] (defScope s_is_level) := ⟨rfl, rfl, rfl, by decide +kernel, rfl, by decide +kernel, by decide +kernel⟩
abbrev s_is_item : Stmt := topS 12
abbrev N_is_item : List Str := ["table", "value"]
theorem sc_is_item : FnScope N_is_item ["table", "value"] (defScope s_is_item) := ⟨rfl, rfl, rfl, by decide +kernel, rfl, by decide +kernel, by decide +kernel⟩
abbrev s_find_row_fault : Stmt := topS 13
abbrev N_find_row_fault : List Str := ["at", "row", "place", "level"]
theorem sc_find_row_fault : FnScope N_find_row_fault ["at", "row"] (defScope s_find_row_fault) := ⟨rfl, rfl, rfl, by decide +kernel, rfl, by decide +kernel, by decide +kernel⟩
abbrev s_find_fault : Stmt := topS 14
abbrev N_find_fault : List Str := ["value", "at", "row", "fault"]
theorem sc_find_fault : FnScope N_find_fault ["value"] (defScope s_find_fault) := ⟨rfl, rfl, rfl, by decide +kernel, rfl, by decide +kernel, by decide +kernel⟩
abbrev s_level_between : Stmt := topS 15
abbrev N_level_between : List Str := ["table", "one", "other"]
theorem sc_level_between : FnScope N_level_between ["table", "one", "other"] (defScope s_level_between) := ⟨rfl, rfl, rfl, by decide +kernel, rfl, by decide +kernel, by decide +kernel⟩
abbrev s_levels_of : Stmt := topS 16
abbrev N_levels_of : List Str := ["table", "row", "level"]
theorem sc_levels_of : FnScope N_levels_of ["table"] (defScope s_levels_of) := ⟨rfl, rfl, rfl, by decide +kernel, rfl, by decide +kernel, by decide +kernel⟩
abbrev s_pairs_of : Stmt := topS 17
abbrev N_pairs_of : List Str := ["table", "count", "one", "other"]
theorem sc_pairs_of : FnScope N_pairs_of ["table"] (defScope s_pairs_of) := ⟨rfl, rfl, rfl, by decide +kernel, rfl, by decide +kernel, by decide +kernel⟩
abbrev s_number_of : Stmt := topS 20
abbrev N_number_of : List Str := ["word", "digits", "number"]
theorem sc_number_of : FnScope N_number_of ["word"] (defScope s_number_of) := ⟨rfl, rfl, rfl, by decide +kernel, rfl, by decide +kernel, by decide +kernel⟩
abbrev s_joined : Stmt := topS 21
abbrev N_joined : List Str := ["numbers", "number"]
theorem sc_joined : FnScope N_joined ["numbers"] (defScope s_joined) := ⟨rfl, rfl, rfl, by decide +kernel, rfl, by decide +kernel, by decide +kernel⟩
abbrev s_format_table : Stmt := topS 22
abbrev N_format_table : List Str := ["table", "lines", "row"]
theorem sc_format_table : FnScope N_format_table ["table"] (defScope s_format_table) := ⟨rfl, rfl, rfl, by decide +kernel, rfl, by decide +kernel, by decide +kernel⟩
abbrev s_format_tree : Stmt := topS 23
abbrev N_format_tree : List Str := ["tree", "level", "parts", "words", "part"]
theorem sc_format_tree : FnScope N_format_tree ["tree"] (defScope s_format_tree) := ⟨rfl, rfl, rfl, by decide +kernel, rfl, by decide +kernel, by decide +kernel⟩
abbrev s_count_in : Stmt := topS 24
abbrev N_count_in : List Str := ["line", "words", "count"]
theorem sc_count_in : FnScope N_count_in ["line"] (defScope s_count_in) := ⟨rfl, rfl, rfl, by decide +kernel, rfl, by decide +kernel, by decide +kernel⟩
abbrev s_row_in : Stmt := topS 25
abbrev N_row_in : List Str := ["line", "size", "words", "levels", "word", "level"]
theorem sc_row_in : FnScope N_row_in ["line", "size"] (defScope s_row_in) := ⟨rfl, rfl, rfl, by decide +kernel, rfl, by decide +kernel, by decide +kernel⟩
abbrev s_parse_lines : Stmt := topS 26
abbrev N_parse_lines : List Str := ["lines", "count", "rows", "at", "line", "row"]
theorem sc_parse_lines : FnScope N_parse_lines ["lines"] (defScope s_parse_lines) := ⟨rfl, rfl, rfl, by decide +kernel, rfl, by decide +kernel, by decide +kernel⟩
abbrev s_parse_table : Stmt := topS 27
abbrev N_parse_table : List Str := ["value", "lines", "rest", "count", "rows"]
theorem sc_parse_table : FnScope N_parse_table ["value"] (defScope s_parse_table) := ⟨rfl, rfl, rfl, by decide +kernel, rfl, by decide +kernel, by decide +kernel⟩
abbrev s_level_grid : Stmt := topS 29
abbrev N_level_grid : List Str := ["table", "count", "one", "other"]
theorem sc_level_grid : FnScope N_level_grid ["table"] (defScope s_level_grid) := ⟨rfl, rfl, rfl, by decide +kernel, rfl, by decide +kernel, by decide +kernel⟩
abbrev s_lowest_grid : Stmt := topS 30
abbrev N_lowest_grid : List Str := ["grid", "lowest", "middle", "onward", "row", "direct", "step"]
theorem sc_lowest_grid : FnScope N_lowest_grid ["grid"] (defScope s_lowest_grid) := ⟨rfl, rfl, rfl, by decide +kernel, rfl, by decide +kernel, by decide +kernel⟩
abbrev s_join_grid : Stmt := topS 31
abbrev N_join_grid : List Str := ["table"]
theorem sc_join_grid : FnScope N_join_grid ["table"] (defScope s_join_grid) := ⟨rfl, rfl, rfl, by decide +kernel, rfl, by decide +kernel, by decide +kernel⟩
abbrev s_nested_below : Stmt := topS 32
abbrev N_nested_below : List Str := ["table", "at", "row"]
theorem sc_nested_below : FnScope N_nested_below ["table"] (defScope s_nested_below) := ⟨rfl, rfl, rfl, by decide +kernel, rfl, by decide +kernel, by decide +kernel⟩
abbrev s_is_path : Stmt := topS 33
abbrev s_group_of : Stmt := topS 35
abbrev N_group_of : List Str := ["grid", "item", "level", "other", "join"]
theorem sc_group_of : FnScope N_group_of ["grid", "item", "level"] (defScope s_group_of) := ⟨rfl, rfl, rfl, by decide +kernel, rfl, by decide +kernel, by decide +kernel⟩
abbrev s_all_groups : Stmt := topS 36
abbrev N_all_groups : List Str := ["grid", "level", "item"]
theorem sc_all_groups : FnScope N_all_groups ["grid", "level"] (defScope s_all_groups) := ⟨rfl, rfl, rfl, by decide +kernel, rfl, by decide +kernel, by decide +kernel⟩
abbrev s_steps_of : Stmt := topS 37
abbrev N_steps_of : List Str := ["grid", "row", "level"]
theorem sc_steps_of : FnScope N_steps_of ["grid"] (defScope s_steps_of) := ⟨rfl, rfl, rfl, by decide +kernel, rfl, by decide +kernel, by decide +kernel⟩
abbrev s_groups_at : Stmt := topS 38
abbrev s_clusters_of : Stmt := topS 39
abbrev s_is_cluster : Stmt := topS 40
abbrev s_joins_of : Stmt := topS 41
abbrev N_joins_of : List Str := ["table", "grid", "joins", "level", "before", "group", "part"]
theorem sc_joins_of : FnScope N_joins_of ["table"] (defScope s_joins_of) := ⟨rfl, rfl, rfl, by decide +kernel, rfl, by decide +kernel, by decide +kernel⟩
abbrev s_picked : Stmt := topS 43
abbrev N_picked : List Str := ["table", "items", "at", "item", "other"]
theorem sc_picked : FnScope N_picked ["table", "items"] (defScope s_picked) := ⟨rfl, rfl, rfl, by decide +kernel, rfl, by decide +kernel, by decide +kernel⟩
abbrev s_check_cut : Stmt := topS 45
abbrev s_widest_pair : Stmt := topS 48
abbrev N_widest_pair : List Str := ["table", "grid", "one", "other"]
theorem sc_widest_pair : FnScope N_widest_pair ["table"] (defScope s_widest_pair) := ⟨rfl, rfl, rfl, by decide +kernel, rfl, by decide +kernel, by decide +kernel⟩
abbrev s_greatest_gap : Stmt := topS 49
abbrev N_greatest_gap : List Str := ["table"]
theorem sc_greatest_gap : FnScope N_greatest_gap ["table"] (defScope s_greatest_gap) := ⟨rfl, rfl, rfl, by decide +kernel, rfl, by decide +kernel, by decide +kernel⟩
abbrev s_least_deviation : Stmt := topS 50
abbrev N_least_deviation : List Str := ["table"]
theorem sc_least_deviation : FnScope N_least_deviation ["table"] (defScope s_least_deviation) := ⟨rfl, rfl, rfl, by decide +kernel, rfl, by decide +kernel, by decide +kernel⟩
abbrev s_raised_joins : Stmt := topS 51
abbrev N_raised_joins : List Str := ["table", "rise", "top", "row", "level"]
theorem sc_raised_joins : FnScope N_raised_joins ["table", "rise", "top"] (defScope s_raised_joins) := ⟨rfl, rfl, rfl, by decide +kernel, rfl, by decide +kernel, by decide +kernel⟩
abbrev s_nearest_table : Stmt := topS 52
abbrev N_nearest_table : List Str := ["table"]
theorem sc_nearest_table : FnScope N_nearest_table ["table"] (defScope s_nearest_table) := ⟨rfl, rfl, rfl, by decide +kernel, rfl, by decide +kernel, by decide +kernel⟩
abbrev s_nested_within : Stmt := topS 53
abbrev N_nested_within : List Str := ["table", "most"]
theorem sc_nested_within : FnScope N_nested_within ["table", "most"] (defScope s_nested_within) := ⟨rfl, rfl, rfl, by decide +kernel, rfl, by decide +kernel, by decide +kernel⟩
abbrev s_tree_of : Stmt := topS 55
abbrev N_tree_of : List Str := ["table", "trees", "level", "parts", "cluster", "below", "item", "part"]
theorem sc_tree_of : FnScope N_tree_of ["table"] (defScope s_tree_of) := ⟨rfl, rfl, rfl, by decide +kernel, rfl, by decide +kernel, by decide +kernel⟩
abbrev s_items_of : Stmt := topS 56
abbrev N_items_of : List Str := ["tree", "part", "item"]
theorem sc_items_of : FnScope N_items_of ["tree"] (defScope s_items_of) := ⟨rfl, rfl, rfl, by decide +kernel, rfl, by decide +kernel, by decide +kernel⟩
abbrev s_level_in : Stmt := topS 57
abbrev N_level_in : List Str := ["tree", "one", "other", "part", "items"]
theorem sc_level_in : FnScope N_level_in ["tree", "one", "other"] (defScope s_level_in) := ⟨rfl, rfl, rfl, by decide +kernel, rfl, by decide +kernel, by decide +kernel⟩
abbrev s_table_of : Stmt := topS 58
abbrev N_table_of : List Str := ["tree", "count", "one", "other"]
theorem sc_table_of : FnScope N_table_of ["tree"] (defScope s_table_of) := ⟨rfl, rfl, rfl, by decide +kernel, rfl, by decide +kernel, by decide +kernel⟩
abbrev s_is_part : Stmt := topS 59
abbrev N_is_part : List Str := ["value", "above", "level", "leasts", "part"]
theorem sc_is_part : FnScope N_is_part ["value", "above"] (defScope s_is_part) := ⟨rfl, rfl, rfl, by decide +kernel, rfl, by decide +kernel, by decide +kernel⟩
abbrev s_is_tree : Stmt := topS 60
abbrev N_is_tree : List Str := ["value", "items"]
theorem sc_is_tree : FnScope N_is_tree ["value"] (defScope s_is_tree) := ⟨rfl, rfl, rfl, by decide +kernel, rfl, by decide +kernel, by decide +kernel⟩
abbrev s_is_order : Stmt := topS 62
abbrev N_is_order : List Str := ["table", "value", "item"]
theorem sc_is_order : FnScope N_is_order ["table", "value"] (defScope s_is_order) := ⟨rfl, rfl, rfl, by decide +kernel, rfl, by decide +kernel, by decide +kernel⟩
abbrev s_relabeled : Stmt := topS 63
abbrev N_relabeled : List Str := ["table", "order"]
theorem sc_relabeled : FnScope N_relabeled ["table", "order"] (defScope s_relabeled) := ⟨rfl, rfl, rfl, by decide +kernel, rfl, by decide +kernel, by decide +kernel⟩
abbrev s_L_draws : Stmt := topS 65
abbrev N_L_draws : List Str := ["_law_script", "_law_cells", "_law_cell"]
theorem sc_L_draws : FnScope N_L_draws ["_law_script"] (defScope s_L_draws) := ⟨rfl, rfl, rfl, by decide +kernel, rfl, by decide +kernel, by decide +kernel⟩
abbrev s_L_next : Stmt := topS 66
abbrev N_L_next : List Str := ["_law_drawn", "_law_many", "_law_cells", "_law_turn", "_law_rests", "_law_spot", "_law_digit", "_law_mixed", "_law_again"]
theorem sc_L_next : FnScope N_L_next ["_law_drawn", "_law_many"] (defScope s_L_next) := ⟨rfl, rfl, rfl, by decide +kernel, rfl, by decide +kernel, by decide +kernel⟩
abbrev s_L_one : Stmt := topS 67
abbrev N_L_one : List Str := ["_law_drawn", "_law_items"]
theorem sc_L_one : FnScope N_L_one ["_law_drawn", "_law_items"] (defScope s_L_one) := ⟨rfl, rfl, rfl, by decide +kernel, rfl, by decide +kernel, by decide +kernel⟩
abbrev s_L_equal : Stmt := topS 68
abbrev N_L_equal : List Str := ["_law_one_here", "_law_other", "_law_a", "_law_b"]
theorem sc_L_equal : FnScope N_L_equal ["_law_one_here", "_law_other"] (defScope s_L_equal) := ⟨rfl, rfl, rfl, by decide +kernel, rfl, by decide +kernel, by decide +kernel⟩
abbrev s_L_count : Stmt := topS 69
abbrev N_L_count : List Str := ["_law_drawn", "_law_most"]
theorem sc_L_count : FnScope N_L_count ["_law_drawn", "_law_most"] (defScope s_L_count) := ⟨rfl, rfl, rfl, by decide +kernel, rfl, by decide +kernel, by decide +kernel⟩
abbrev s_L_grades : Stmt := topS 70
abbrev N_L_grades : List Str := ["_law_drawn", "_law_way", "_law_many", "_law_wide", "_law_found", "_law_k"]
theorem sc_L_grades : FnScope N_L_grades ["_law_drawn"] (defScope s_L_grades) := ⟨rfl, rfl, rfl, by decide +kernel, rfl, by decide +kernel, by decide +kernel⟩
abbrev s_L_level : Stmt := topS 71
abbrev N_L_level : List Str := ["_law_table_here", "_law_one_here", "_law_other", "_law_low", "_law_high"]
theorem sc_L_level : FnScope N_L_level ["_law_table_here", "_law_one_here", "_law_other"] (defScope s_L_level) := ⟨rfl, rfl, rfl, by decide +kernel, rfl, by decide +kernel, by decide +kernel⟩
abbrev s_L_nested : Stmt := topS 72
abbrev N_L_nested : List Str := ["_law_drawn", "_law_count_here", "_law_grades_here", "_law_rows", "_law_near", "_law_level_here", "_law_row", "_law_k"]
theorem sc_L_nested : FnScope N_L_nested ["_law_drawn", "_law_count_here", "_law_grades_here"] (defScope s_L_nested) := ⟨rfl, rfl, rfl, by decide +kernel, rfl, by decide +kernel, by decide +kernel⟩
abbrev s_L_raised : Stmt := topS 73
abbrev N_L_raised : List Str := ["_law_drawn", "_law_table_here", "_law_grades_here", "_law_found", "_law_row", "_law_level_here"]
theorem sc_L_raised : FnScope N_L_raised ["_law_drawn", "_law_table_here", "_law_grades_here"] (defScope s_L_raised) := ⟨rfl, rfl, rfl, by decide +kernel, rfl, by decide +kernel, by decide +kernel⟩
abbrev s_L_levels : Stmt := topS 74
abbrev N_L_levels : List Str := ["_law_drawn", "_law_many", "_law_grades_here", "_law_k"]
theorem sc_L_levels : FnScope N_L_levels ["_law_drawn", "_law_many", "_law_grades_here"] (defScope s_L_levels) := ⟨rfl, rfl, rfl, by decide +kernel, rfl, by decide +kernel, by decide +kernel⟩
abbrev s_L_any : Stmt := topS 75
abbrev N_L_any : List Str := ["_law_drawn", "_law_many", "_law_wide", "_law_k"]
theorem sc_L_any : FnScope N_L_any ["_law_drawn", "_law_many", "_law_wide"] (defScope s_L_any) := ⟨rfl, rfl, rfl, by decide +kernel, rfl, by decide +kernel, by decide +kernel⟩
abbrev s_L_table : Stmt := topS 76
abbrev N_L_table : List Str := ["_law_drawn", "_law_count_here", "_law_grades_here", "_law_way", "_law_one_here", "_law_wide", "_law_table_here", "_law_other", "_law_level_here", "_law_row"]
theorem sc_L_table : FnScope N_L_table ["_law_drawn", "_law_count_here"] (defScope s_L_table) := ⟨rfl, rfl, rfl, by decide +kernel, rfl, by decide +kernel, by decide +kernel⟩
abbrev s_L_tree_read : Stmt := topS 77
abbrev N_L_tree_read : List Str := ["_law_words", "_law_stack", "_law_word", "_law_inner"]
theorem sc_L_tree_read : FnScope N_L_tree_read ["_law_words"] (defScope s_L_tree_read) := ⟨rfl, rfl, rfl, by decide +kernel, rfl, by decide +kernel, by decide +kernel⟩
abbrev s_L_tree_right : Stmt := topS 78
abbrev N_L_tree_right : List Str := ["_law_table_here", "_law_tree", "_law_under", "_law_read"]
theorem sc_L_tree_right : FnScope N_L_tree_right ["_law_table_here"] (defScope s_L_tree_right) := ⟨rfl, rfl, rfl, by decide +kernel, rfl, by decide +kernel, by decide +kernel⟩
abbrev s_L_board_right : Stmt := topS 79
abbrev N_L_board_right : List Str := ["_law_table_here", "_law_board"]
theorem sc_L_board_right : FnScope N_L_board_right ["_law_table_here"] (defScope s_L_board_right) := ⟨rfl, rfl, rfl, by decide +kernel, rfl, by decide +kernel, by decide +kernel⟩
abbrev s_law : Stmt := topS 80
abbrev N_law : List Str := ["_law_script", "_law_drawn", "_law_some", "_law_turn", "_law_table_here", "_law_found", "_law_within", "_law_words", "_law_under", "_law_one_here", "_law_others", "_law_lower"]
theorem sc_law : FnScope N_law ["_law_script"] (defScope s_law) := ⟨rfl, rfl, rfl, by decide +kernel, rfl, by decide +kernel, by decide +kernel⟩
def clsM (i j : Nat) : Stmt := (match topS i with | .ClassDef _ _ _ b _ _ _ _ _ _ _ => b | _ => []).getD j (.Pass ⟨0, 0, 0, 0⟩)
abbrev s_Board_init : Stmt := clsM 46 2
abbrev N_Board_init : List Str := ["self", "table", "fault", "path", "reason"]
theorem sc_Board_init : FnScope N_Board_init ["self", "table"] (defScope s_Board_init) := ⟨rfl, rfl, rfl, by decide +kernel, rfl, by decide +kernel, by decide +kernel⟩
abbrev s_Board_read : Stmt := clsM 46 3
abbrev N_Board_read : List Str := ["cls", "text"]
theorem sc_Board_read : FnScope N_Board_read ["cls", "text"] (defScope s_Board_read) := ⟨rfl, rfl, rfl, by decide +kernel, rfl, by decide +kernel, by decide +kernel⟩
abbrev s_Board_cut : Stmt := clsM 46 16
abbrev s_Board_groups : Stmt := clsM 46 17
abbrev s_Board_top : Stmt := clsM 46 18
abbrev s_Board_call : Stmt := clsM 46 19
abbrev s_Board_contains : Stmt := clsM 46 20
abbrev s_Board_table : Stmt := clsM 46 21
abbrev N_Board_table : List Str := ["self"]
theorem sc_Board_table : FnScope N_Board_table ["self"] (defScope s_Board_table) := ⟨rfl, rfl, rfl, by decide +kernel, rfl, by decide +kernel, by decide +kernel⟩
abbrev s_Board_nested : Stmt := clsM 46 22
abbrev N_Board_nested : List Str := ["self"]
theorem sc_Board_nested : FnScope N_Board_nested ["self"] (defScope s_Board_nested) := ⟨rfl, rfl, rfl, by decide +kernel, rfl, by decide +kernel, by decide +kernel⟩
abbrev s_Board_joins : Stmt := clsM 46 23
abbrev s_Board_actions : Stmt := clsM 46 25
abbrev s_Board_len : Stmt := clsM 46 30
abbrev N_Board_len : List Str := ["self"]
theorem sc_Board_len : FnScope N_Board_len ["self"] (defScope s_Board_len) := ⟨rfl, rfl, rfl, by decide +kernel, rfl, by decide +kernel, by decide +kernel⟩
abbrev s_Board_eq : Stmt := clsM 46 31
abbrev N_Board_eq : List Str := ["self", "other"]
theorem sc_Board_eq : FnScope N_Board_eq ["self", "other"] (defScope s_Board_eq) := ⟨rfl, rfl, rfl, by decide +kernel, rfl, by decide +kernel, by decide +kernel⟩
abbrev s_Board_str : Stmt := clsM 46 32
def hfs0 : List Ft := [
  fun K => decide (PySem.W.nsIn K mainGlobals "is_whole" = some (some (.ref (He.ga K "is_whole")))),
  fun K => PySem.W.keepIn K (.ref (He.ga K "is_whole")),
  fun K => decide (PySem.W.nsIn K mainGlobals "is_level" = some (some (.ref (He.ga K "is_level")))),
  fun K => PySem.W.keepIn K (.ref (He.ga K "is_level")),
  fun K => decide (PySem.W.nsIn K mainGlobals "is_item" = some (some (.ref (He.ga K "is_item")))),
  fun K => PySem.W.keepIn K (.ref (He.ga K "is_item")),
  fun K => decide (PySem.W.nsIn K mainGlobals "find_row_fault" = some (some (.ref (He.ga K "find_row_fault")))),
  fun K => PySem.W.keepIn K (.ref (He.ga K "find_row_fault")),
  fun K => decide (PySem.W.nsIn K mainGlobals "find_fault" = some (some (.ref (He.ga K "find_fault")))),
  fun K => PySem.W.keepIn K (.ref (He.ga K "find_fault")),
  fun K => decide (PySem.W.nsIn K mainGlobals "level_between" = some (some (.ref (He.ga K "level_between")))),
  fun K => PySem.W.keepIn K (.ref (He.ga K "level_between")),
  fun K => decide (PySem.W.nsIn K mainGlobals "levels_of" = some (some (.ref (He.ga K "levels_of")))),
  fun K => PySem.W.keepIn K (.ref (He.ga K "levels_of")),
  fun K => decide (PySem.W.nsIn K mainGlobals "pairs_of" = some (some (.ref (He.ga K "pairs_of")))),
  fun K => PySem.W.keepIn K (.ref (He.ga K "pairs_of")),
  fun K => decide (PySem.W.nsIn K mainGlobals "number_of" = some (some (.ref (He.ga K "number_of")))),
  fun K => PySem.W.keepIn K (.ref (He.ga K "number_of")),
  fun K => decide (PySem.W.nsIn K mainGlobals "joined" = some (some (.ref (He.ga K "joined")))),
  fun K => PySem.W.keepIn K (.ref (He.ga K "joined")),
  fun K => decide (PySem.W.nsIn K mainGlobals "format_table" = some (some (.ref (He.ga K "format_table")))),
  fun K => PySem.W.keepIn K (.ref (He.ga K "format_table")),
  fun K => decide (PySem.W.nsIn K mainGlobals "format_tree" = some (some (.ref (He.ga K "format_tree")))),
  fun K => PySem.W.keepIn K (.ref (He.ga K "format_tree")),
  fun K => decide (PySem.W.nsIn K mainGlobals "count_in" = some (some (.ref (He.ga K "count_in")))),
  fun K => PySem.W.keepIn K (.ref (He.ga K "count_in")),
  fun K => decide (PySem.W.nsIn K mainGlobals "row_in" = some (some (.ref (He.ga K "row_in")))),
  fun K => PySem.W.keepIn K (.ref (He.ga K "row_in")),
  fun K => decide (PySem.W.nsIn K mainGlobals "parse_lines" = some (some (.ref (He.ga K "parse_lines")))),
  fun K => PySem.W.keepIn K (.ref (He.ga K "parse_lines"))]
def hfs1 : List Ft := [
  fun K => decide (PySem.W.nsIn K mainGlobals "parse_table" = some (some (.ref (He.ga K "parse_table")))),
  fun K => PySem.W.keepIn K (.ref (He.ga K "parse_table")),
  fun K => decide (PySem.W.nsIn K mainGlobals "level_grid" = some (some (.ref (He.ga K "level_grid")))),
  fun K => PySem.W.keepIn K (.ref (He.ga K "level_grid")),
  fun K => decide (PySem.W.nsIn K mainGlobals "lowest_grid" = some (some (.ref (He.ga K "lowest_grid")))),
  fun K => PySem.W.keepIn K (.ref (He.ga K "lowest_grid")),
  fun K => decide (PySem.W.nsIn K mainGlobals "join_grid" = some (some (.ref (He.ga K "join_grid")))),
  fun K => PySem.W.keepIn K (.ref (He.ga K "join_grid")),
  fun K => decide (PySem.W.nsIn K mainGlobals "nested_below" = some (some (.ref (He.ga K "nested_below")))),
  fun K => PySem.W.keepIn K (.ref (He.ga K "nested_below")),
  fun K => decide (PySem.W.nsIn K mainGlobals "is_path" = some (some (.ref (He.ga K "is_path")))),
  fun K => PySem.W.keepIn K (.ref (He.ga K "is_path")),
  fun K => decide (PySem.W.nsIn K mainGlobals "group_of" = some (some (.ref (He.ga K "group_of")))),
  fun K => PySem.W.keepIn K (.ref (He.ga K "group_of")),
  fun K => decide (PySem.W.nsIn K mainGlobals "all_groups" = some (some (.ref (He.ga K "all_groups")))),
  fun K => PySem.W.keepIn K (.ref (He.ga K "all_groups")),
  fun K => decide (PySem.W.nsIn K mainGlobals "steps_of" = some (some (.ref (He.ga K "steps_of")))),
  fun K => PySem.W.keepIn K (.ref (He.ga K "steps_of")),
  fun K => decide (PySem.W.nsIn K mainGlobals "groups_at" = some (some (.ref (He.ga K "groups_at")))),
  fun K => PySem.W.keepIn K (.ref (He.ga K "groups_at")),
  fun K => decide (PySem.W.nsIn K mainGlobals "clusters_of" = some (some (.ref (He.ga K "clusters_of")))),
  fun K => PySem.W.keepIn K (.ref (He.ga K "clusters_of")),
  fun K => decide (PySem.W.nsIn K mainGlobals "is_cluster" = some (some (.ref (He.ga K "is_cluster")))),
  fun K => PySem.W.keepIn K (.ref (He.ga K "is_cluster")),
  fun K => decide (PySem.W.nsIn K mainGlobals "joins_of" = some (some (.ref (He.ga K "joins_of")))),
  fun K => PySem.W.keepIn K (.ref (He.ga K "joins_of")),
  fun K => decide (PySem.W.nsIn K mainGlobals "picked" = some (some (.ref (He.ga K "picked")))),
  fun K => PySem.W.keepIn K (.ref (He.ga K "picked")),
  fun K => decide (PySem.W.nsIn K mainGlobals "check_cut" = some (some (.ref (He.ga K "check_cut")))),
  fun K => PySem.W.keepIn K (.ref (He.ga K "check_cut"))]
def hfs2 : List Ft := [
  fun K => decide (PySem.W.nsIn K mainGlobals "widest_pair" = some (some (.ref (He.ga K "widest_pair")))),
  fun K => PySem.W.keepIn K (.ref (He.ga K "widest_pair")),
  fun K => decide (PySem.W.nsIn K mainGlobals "greatest_gap" = some (some (.ref (He.ga K "greatest_gap")))),
  fun K => PySem.W.keepIn K (.ref (He.ga K "greatest_gap")),
  fun K => decide (PySem.W.nsIn K mainGlobals "least_deviation" = some (some (.ref (He.ga K "least_deviation")))),
  fun K => PySem.W.keepIn K (.ref (He.ga K "least_deviation")),
  fun K => decide (PySem.W.nsIn K mainGlobals "raised_joins" = some (some (.ref (He.ga K "raised_joins")))),
  fun K => PySem.W.keepIn K (.ref (He.ga K "raised_joins")),
  fun K => decide (PySem.W.nsIn K mainGlobals "nearest_table" = some (some (.ref (He.ga K "nearest_table")))),
  fun K => PySem.W.keepIn K (.ref (He.ga K "nearest_table")),
  fun K => decide (PySem.W.nsIn K mainGlobals "nested_within" = some (some (.ref (He.ga K "nested_within")))),
  fun K => PySem.W.keepIn K (.ref (He.ga K "nested_within")),
  fun K => decide (PySem.W.nsIn K mainGlobals "tree_of" = some (some (.ref (He.ga K "tree_of")))),
  fun K => PySem.W.keepIn K (.ref (He.ga K "tree_of")),
  fun K => decide (PySem.W.nsIn K mainGlobals "items_of" = some (some (.ref (He.ga K "items_of")))),
  fun K => PySem.W.keepIn K (.ref (He.ga K "items_of")),
  fun K => decide (PySem.W.nsIn K mainGlobals "level_in" = some (some (.ref (He.ga K "level_in")))),
  fun K => PySem.W.keepIn K (.ref (He.ga K "level_in")),
  fun K => decide (PySem.W.nsIn K mainGlobals "table_of" = some (some (.ref (He.ga K "table_of")))),
  fun K => PySem.W.keepIn K (.ref (He.ga K "table_of")),
  fun K => decide (PySem.W.nsIn K mainGlobals "is_part" = some (some (.ref (He.ga K "is_part")))),
  fun K => PySem.W.keepIn K (.ref (He.ga K "is_part")),
  fun K => decide (PySem.W.nsIn K mainGlobals "is_tree" = some (some (.ref (He.ga K "is_tree")))),
  fun K => PySem.W.keepIn K (.ref (He.ga K "is_tree")),
  fun K => decide (PySem.W.nsIn K mainGlobals "is_order" = some (some (.ref (He.ga K "is_order")))),
  fun K => PySem.W.keepIn K (.ref (He.ga K "is_order")),
  fun K => decide (PySem.W.nsIn K mainGlobals "relabeled" = some (some (.ref (He.ga K "relabeled")))),
  fun K => PySem.W.keepIn K (.ref (He.ga K "relabeled")),
  fun K => decide (PySem.W.nsIn K mainGlobals "_law_draws" = some (some (.ref (He.ga K "_law_draws")))),
  fun K => PySem.W.keepIn K (.ref (He.ga K "_law_draws"))]
def hfs3 : List Ft := [
  fun K => decide (PySem.W.nsIn K mainGlobals "_law_next" = some (some (.ref (He.ga K "_law_next")))),
  fun K => PySem.W.keepIn K (.ref (He.ga K "_law_next")),
  fun K => decide (PySem.W.nsIn K mainGlobals "_law_one" = some (some (.ref (He.ga K "_law_one")))),
  fun K => PySem.W.keepIn K (.ref (He.ga K "_law_one")),
  fun K => decide (PySem.W.nsIn K mainGlobals "_law_equal" = some (some (.ref (He.ga K "_law_equal")))),
  fun K => PySem.W.keepIn K (.ref (He.ga K "_law_equal")),
  fun K => decide (PySem.W.nsIn K mainGlobals "_law_count" = some (some (.ref (He.ga K "_law_count")))),
  fun K => PySem.W.keepIn K (.ref (He.ga K "_law_count")),
  fun K => decide (PySem.W.nsIn K mainGlobals "_law_grades" = some (some (.ref (He.ga K "_law_grades")))),
  fun K => PySem.W.keepIn K (.ref (He.ga K "_law_grades")),
  fun K => decide (PySem.W.nsIn K mainGlobals "_law_level" = some (some (.ref (He.ga K "_law_level")))),
  fun K => PySem.W.keepIn K (.ref (He.ga K "_law_level")),
  fun K => decide (PySem.W.nsIn K mainGlobals "_law_nested" = some (some (.ref (He.ga K "_law_nested")))),
  fun K => PySem.W.keepIn K (.ref (He.ga K "_law_nested")),
  fun K => decide (PySem.W.nsIn K mainGlobals "_law_raised" = some (some (.ref (He.ga K "_law_raised")))),
  fun K => PySem.W.keepIn K (.ref (He.ga K "_law_raised")),
  fun K => decide (PySem.W.nsIn K mainGlobals "_law_levels" = some (some (.ref (He.ga K "_law_levels")))),
  fun K => PySem.W.keepIn K (.ref (He.ga K "_law_levels")),
  fun K => decide (PySem.W.nsIn K mainGlobals "_law_any" = some (some (.ref (He.ga K "_law_any")))),
  fun K => PySem.W.keepIn K (.ref (He.ga K "_law_any")),
  fun K => decide (PySem.W.nsIn K mainGlobals "_law_table" = some (some (.ref (He.ga K "_law_table")))),
  fun K => PySem.W.keepIn K (.ref (He.ga K "_law_table")),
  fun K => decide (PySem.W.nsIn K mainGlobals "_law_tree_read" = some (some (.ref (He.ga K "_law_tree_read")))),
  fun K => PySem.W.keepIn K (.ref (He.ga K "_law_tree_read")),
  fun K => decide (PySem.W.nsIn K mainGlobals "_law_tree_right" = some (some (.ref (He.ga K "_law_tree_right")))),
  fun K => PySem.W.keepIn K (.ref (He.ga K "_law_tree_right")),
  fun K => decide (PySem.W.nsIn K mainGlobals "_law_board_right" = some (some (.ref (He.ga K "_law_board_right")))),
  fun K => PySem.W.keepIn K (.ref (He.ga K "_law_board_right")),
  fun K => decide (PySem.W.nsIn K mainGlobals "law" = some (some (.ref (He.ga K "law")))),
  fun K => PySem.W.keepIn K (.ref (He.ga K "law"))]
def hfs4 : List Ft := [
  fun K => decide (PySem.W.nsIn K mainGlobals "Board" = some (some (.ref (He.ga K "Board")))),
  fun K => PySem.W.plainGet K (He.ga K "Board") Str.empty,
  fun K => PySem.W.hasDictIn K (He.ga K "Board"),
  fun K => PySem.W.plainOver K (He.ga K "Board"),
  fun K => decide (PySem.W.findIn K (.ref (He.ga K "Board")) "__setattr__" = some (some (.builtin "object.__setattr__"))),
  fun K => PySem.W.makesIn K (He.ga K "Board"),
  fun K => PySem.W.keepIn K (.ref (He.ga K "Board")),
  fun K => decide (PySem.W.findIn K (.ref (He.ga K "Board")) "__class__" = some (some (.builtin "object.__class__"))),
  fun K => decide (PySem.W.specialIn K (.builtin "object.__class__") "__get__" = some (some (.builtin "getset_descriptor.__get__"))),
  fun K => decide (PySem.W.takesIn K (.builtin "object.__class__") = some true),
  fun K => decide (PySem.W.mroIn K (He.ga K "Board") (.type "object") = some true),
  fun K => decide (PySem.W.typeIn K (.ref (He.ga K "Board")) = some (.type "type")),
  fun K => PySem.W.readsIn K (He.ga K "Board") (.type "type"),
  fun K => decide (PySem.W.specialIn K (.ref (He.ga K "Board")) "__getattribute__" = some (some (.builtin "type.__getattribute__"))),
  fun K => decide (PySem.W.kitOne K (.ref (He.ga K "Board")) (.ref (He.ga K "Board")) = some true),
  fun K => decide (PySem.W.findIn K (.ref (He.ga K "Board")) "kept" = some none),
  fun K => decide (PySem.W.findIn K (.ref (He.ga K "Board")) "tables" = some none),
  fun K => decide (PySem.W.findIn K (.ref (He.ga K "Board")) "level" = some none),
  fun K => decide (PySem.W.findIn K (.ref (He.ga K "Board")) "busy" = some none),
  fun K => decide (PySem.W.findIn K (.ref (He.ga K "Board")) "rows" = some none),
  fun K => decide (PySem.W.findIn K (.ref (He.ga K "Board")) "LIMIT" = some (some (.int 60 (tkC K (He.ga K "Board") "LIMIT")))),
  fun K => decide (PySem.W.specialIn K (.int 60 (tkC K (He.ga K "Board") "LIMIT")) "__get__" = some none),
  fun K => decide (PySem.W.findIn K (.ref (He.ga K "Board")) "NESTED" = some (some (.bool false))),
  fun K => decide (PySem.W.specialIn K (.bool false) "__get__" = some none),
  fun K => decide (PySem.W.findIn K (.ref (He.ga K "Board")) "__init__" = some (some (.ref (He.ma K (He.ga K "Board") "__init__")))),
  fun K => PySem.W.isFn K (.ref (He.ma K (He.ga K "Board") "__init__")),
  fun K => PySem.W.keepIn K (.ref (He.ma K (He.ga K "Board") "__init__")),
  fun K => PySem.W.fnIn K (He.ma K (He.ga K "Board") "__init__"),
  fun K => cmB K (He.ga K "Board") "read" (He.ma K (He.ga K "Board") "read"),
  fun K => decide (PySem.W.recIn K (He.ma K (He.ga K "Board") "read") "classmethod" = some (.ref (cmF K (He.ma K (He.ga K "Board") "read")) :: (cmR K (He.ma K (He.ga K "Board") "read"))))]
def hfs5 : List Ft := [
  fun K => PySem.W.keepIn K (.ref (cmF K (He.ma K (He.ga K "Board") "read"))),
  fun K => PySem.W.fnIn K (cmF K (He.ma K (He.ga K "Board") "read")),
  fun K => decide (PySem.W.findIn K (.ref (He.ga K "Board")) "cut" = some (some (.ref (He.ma K (He.ga K "Board") "cut")))),
  fun K => decide (PySem.W.specialIn K (.ref (He.ma K (He.ga K "Board") "cut")) "__get__" = some (some (.builtin "property.__get__"))),
  fun K => decide (PySem.W.takesIn K (.ref (He.ma K (He.ga K "Board") "cut")) = some true),
  fun K => decide (PySem.W.recIn K (He.ma K (He.ga K "Board") "cut") "property" = some (.ref (prF K (He.ma K (He.ga K "Board") "cut")) :: (prR K (He.ma K (He.ga K "Board") "cut")))),
  fun K => PySem.W.keepIn K (.ref (prF K (He.ma K (He.ga K "Board") "cut"))),
  fun K => decide (PySem.W.findIn K (.ref (He.ga K "Board")) "groups" = some (some (.ref (He.ma K (He.ga K "Board") "groups")))),
  fun K => decide (PySem.W.specialIn K (.ref (He.ma K (He.ga K "Board") "groups")) "__get__" = some (some (.builtin "property.__get__"))),
  fun K => decide (PySem.W.takesIn K (.ref (He.ma K (He.ga K "Board") "groups")) = some true),
  fun K => decide (PySem.W.recIn K (He.ma K (He.ga K "Board") "groups") "property" = some (.ref (prF K (He.ma K (He.ga K "Board") "groups")) :: (prR K (He.ma K (He.ga K "Board") "groups")))),
  fun K => PySem.W.keepIn K (.ref (prF K (He.ma K (He.ga K "Board") "groups"))),
  fun K => decide (PySem.W.findIn K (.ref (He.ga K "Board")) "top" = some (some (.ref (He.ma K (He.ga K "Board") "top")))),
  fun K => decide (PySem.W.specialIn K (.ref (He.ma K (He.ga K "Board") "top")) "__get__" = some (some (.builtin "property.__get__"))),
  fun K => decide (PySem.W.takesIn K (.ref (He.ma K (He.ga K "Board") "top")) = some true),
  fun K => decide (PySem.W.recIn K (He.ma K (He.ga K "Board") "top") "property" = some (.ref (prF K (He.ma K (He.ga K "Board") "top")) :: (prR K (He.ma K (He.ga K "Board") "top")))),
  fun K => PySem.W.keepIn K (.ref (prF K (He.ma K (He.ga K "Board") "top"))),
  fun K => decide (PySem.W.findIn K (.ref (He.ga K "Board")) "__call__" = some (some (.ref (He.ma K (He.ga K "Board") "__call__")))),
  fun K => PySem.W.isFn K (.ref (He.ma K (He.ga K "Board") "__call__")),
  fun K => PySem.W.keepIn K (.ref (He.ma K (He.ga K "Board") "__call__")),
  fun K => PySem.W.fnIn K (He.ma K (He.ga K "Board") "__call__"),
  fun K => decide (PySem.W.findIn K (.ref (He.ga K "Board")) "__contains__" = some (some (.ref (He.ma K (He.ga K "Board") "__contains__")))),
  fun K => PySem.W.isFn K (.ref (He.ma K (He.ga K "Board") "__contains__")),
  fun K => PySem.W.keepIn K (.ref (He.ma K (He.ga K "Board") "__contains__")),
  fun K => PySem.W.fnIn K (He.ma K (He.ga K "Board") "__contains__"),
  fun K => decide (PySem.W.findIn K (.ref (He.ga K "Board")) "table" = some (some (.ref (He.ma K (He.ga K "Board") "table")))),
  fun K => PySem.W.isFn K (.ref (He.ma K (He.ga K "Board") "table")),
  fun K => PySem.W.keepIn K (.ref (He.ma K (He.ga K "Board") "table")),
  fun K => PySem.W.fnIn K (He.ma K (He.ga K "Board") "table"),
  fun K => decide (PySem.W.findIn K (.ref (He.ga K "Board")) "nested" = some (some (.ref (He.ma K (He.ga K "Board") "nested"))))]
def hfs6 : List Ft := [
  fun K => PySem.W.isFn K (.ref (He.ma K (He.ga K "Board") "nested")),
  fun K => PySem.W.keepIn K (.ref (He.ma K (He.ga K "Board") "nested")),
  fun K => PySem.W.fnIn K (He.ma K (He.ga K "Board") "nested"),
  fun K => decide (PySem.W.findIn K (.ref (He.ga K "Board")) "joins" = some (some (.ref (He.ma K (He.ga K "Board") "joins")))),
  fun K => PySem.W.isFn K (.ref (He.ma K (He.ga K "Board") "joins")),
  fun K => PySem.W.keepIn K (.ref (He.ma K (He.ga K "Board") "joins")),
  fun K => PySem.W.fnIn K (He.ma K (He.ga K "Board") "joins"),
  fun K => decide (PySem.W.findIn K (.ref (He.ga K "Board")) "actions" = some (some (.ref (He.ma K (He.ga K "Board") "actions")))),
  fun K => PySem.W.isFn K (.ref (He.ma K (He.ga K "Board") "actions")),
  fun K => PySem.W.keepIn K (.ref (He.ma K (He.ga K "Board") "actions")),
  fun K => PySem.W.fnIn K (He.ma K (He.ga K "Board") "actions"),
  fun K => decide (PySem.W.findIn K (.ref (He.ga K "Board")) "__len__" = some (some (.ref (He.ma K (He.ga K "Board") "__len__")))),
  fun K => PySem.W.isFn K (.ref (He.ma K (He.ga K "Board") "__len__")),
  fun K => PySem.W.keepIn K (.ref (He.ma K (He.ga K "Board") "__len__")),
  fun K => PySem.W.fnIn K (He.ma K (He.ga K "Board") "__len__"),
  fun K => decide (PySem.W.findIn K (.ref (He.ga K "Board")) "__eq__" = some (some (.ref (He.ma K (He.ga K "Board") "__eq__")))),
  fun K => PySem.W.isFn K (.ref (He.ma K (He.ga K "Board") "__eq__")),
  fun K => PySem.W.keepIn K (.ref (He.ma K (He.ga K "Board") "__eq__")),
  fun K => PySem.W.fnIn K (He.ma K (He.ga K "Board") "__eq__"),
  fun K => decide (PySem.W.findIn K (.ref (He.ga K "Board")) "__str__" = some (some (.ref (He.ma K (He.ga K "Board") "__str__")))),
  fun K => PySem.W.isFn K (.ref (He.ma K (He.ga K "Board") "__str__")),
  fun K => PySem.W.keepIn K (.ref (He.ma K (He.ga K "Board") "__str__")),
  fun K => PySem.W.fnIn K (He.ma K (He.ga K "Board") "__str__"),
  fun K => decide (PySem.W.nsIn K mainGlobals "ITEMS" = some (some (.int 12 (tkG K "ITEMS")))),
  fun K => decide (PySem.W.nsIn K mainGlobals "LEVEL" = some (some (.int 1000000000000 (tkG K "LEVEL")))),
  fun K => decide (PySem.W.nsIn K mainGlobals "DIGITS" = some (some (.int 13 (tkG K "DIGITS")))),
  fun K => decide (PySem.W.nsIn K mainGlobals "len" = some none),
  fun K => decide (PySem.W.nsIn K mainGlobals "list" = some none),
  fun K => decide (PySem.W.nsIn K mainGlobals "int" = some none),
  fun K => decide (PySem.W.nsIn K mainGlobals "range" = some none)]
def hfs7 : List Ft := [
  fun K => decide (PySem.W.nsIn K mainGlobals "sorted" = some none),
  fun K => decide (PySem.W.nsIn K mainGlobals "set" = some none),
  fun K => decide (PySem.W.nsIn K mainGlobals "tuple" = some none),
  fun K => decide (PySem.W.nsIn K mainGlobals "min" = some none),
  fun K => decide (PySem.W.nsIn K mainGlobals "max" = some none),
  fun K => decide (PySem.W.nsIn K mainGlobals "isinstance" = some none),
  fun K => decide (PySem.W.nsIn K mainGlobals "bool" = some none),
  fun K => decide (PySem.W.nsIn K mainGlobals "str" = some none),
  fun K => decide (PySem.W.nsIn K mainGlobals "all" = some none),
  fun K => decide (PySem.W.nsIn K mainGlobals "zip" = some none),
  fun K => decide (PySem.W.nsIn K mainGlobals "repr" = some none),
  fun K => decide (PySem.W.nsIn K mainGlobals "enumerate" = some none),
  fun K => decide (PySem.W.nsIn K mainGlobals "abs" = some none),
  fun K => decide (PySem.W.nsIn K mainGlobals "sum" = some none),
  fun K => decide (PySem.W.nsIn K mainGlobals "dict" = some none)]
def hfp0 : List Ft := hfs0 ++ hfs1 ++ hfs2 ++ hfs3 ++ hfs4 ++ hfs5 ++ hfs6 ++ hfs7
def hfs : List (List Ft) := [hfp0]
def hfn0 : List DefE := [
  ⟨fun K => (He.ga K "is_whole"), "is_whole", "is_whole", (defArgs s_is_whole), (defBody s_is_whole), (defScope s_is_whole)⟩,
  ⟨fun K => (He.ga K "is_level"), "is_level", "is_level", (defArgs s_is_level), (defBody s_is_level), (defScope s_is_level)⟩,
  ⟨fun K => (He.ga K "is_item"), "is_item", "is_item", (defArgs s_is_item), (defBody s_is_item), (defScope s_is_item)⟩,
  ⟨fun K => (He.ga K "find_row_fault"), "find_row_fault", "find_row_fault", (defArgs s_find_row_fault), (defBody s_find_row_fault), (defScope s_find_row_fault)⟩,
  ⟨fun K => (He.ga K "find_fault"), "find_fault", "find_fault", (defArgs s_find_fault), (defBody s_find_fault), (defScope s_find_fault)⟩,
  ⟨fun K => (He.ga K "level_between"), "level_between", "level_between", (defArgs s_level_between), (defBody s_level_between), (defScope s_level_between)⟩,
  ⟨fun K => (He.ga K "levels_of"), "levels_of", "levels_of", (defArgs s_levels_of), (defBody s_levels_of), (defScope s_levels_of)⟩,
  ⟨fun K => (He.ga K "pairs_of"), "pairs_of", "pairs_of", (defArgs s_pairs_of), (defBody s_pairs_of), (defScope s_pairs_of)⟩,
  ⟨fun K => (He.ga K "number_of"), "number_of", "number_of", (defArgs s_number_of), (defBody s_number_of), (defScope s_number_of)⟩,
  ⟨fun K => (He.ga K "joined"), "joined", "joined", (defArgs s_joined), (defBody s_joined), (defScope s_joined)⟩,
  ⟨fun K => (He.ga K "format_table"), "format_table", "format_table", (defArgs s_format_table), (defBody s_format_table), (defScope s_format_table)⟩,
  ⟨fun K => (He.ga K "format_tree"), "format_tree", "format_tree", (defArgs s_format_tree), (defBody s_format_tree), (defScope s_format_tree)⟩,
  ⟨fun K => (He.ga K "count_in"), "count_in", "count_in", (defArgs s_count_in), (defBody s_count_in), (defScope s_count_in)⟩,
  ⟨fun K => (He.ga K "row_in"), "row_in", "row_in", (defArgs s_row_in), (defBody s_row_in), (defScope s_row_in)⟩,
  ⟨fun K => (He.ga K "parse_lines"), "parse_lines", "parse_lines", (defArgs s_parse_lines), (defBody s_parse_lines), (defScope s_parse_lines)⟩,
  ⟨fun K => (He.ga K "parse_table"), "parse_table", "parse_table", (defArgs s_parse_table), (defBody s_parse_table), (defScope s_parse_table)⟩,
  ⟨fun K => (He.ga K "level_grid"), "level_grid", "level_grid", (defArgs s_level_grid), (defBody s_level_grid), (defScope s_level_grid)⟩,
  ⟨fun K => (He.ga K "lowest_grid"), "lowest_grid", "lowest_grid", (defArgs s_lowest_grid), (defBody s_lowest_grid), (defScope s_lowest_grid)⟩,
  ⟨fun K => (He.ga K "join_grid"), "join_grid", "join_grid", (defArgs s_join_grid), (defBody s_join_grid), (defScope s_join_grid)⟩,
  ⟨fun K => (He.ga K "nested_below"), "nested_below", "nested_below", (defArgs s_nested_below), (defBody s_nested_below), (defScope s_nested_below)⟩,
  ⟨fun K => (He.ga K "is_path"), "is_path", "is_path", (defArgs s_is_path), (defBody s_is_path), (defScope s_is_path)⟩,
  ⟨fun K => (He.ga K "group_of"), "group_of", "group_of", (defArgs s_group_of), (defBody s_group_of), (defScope s_group_of)⟩,
  ⟨fun K => (He.ga K "all_groups"), "all_groups", "all_groups", (defArgs s_all_groups), (defBody s_all_groups), (defScope s_all_groups)⟩,
  ⟨fun K => (He.ga K "steps_of"), "steps_of", "steps_of", (defArgs s_steps_of), (defBody s_steps_of), (defScope s_steps_of)⟩,
  ⟨fun K => (He.ga K "groups_at"), "groups_at", "groups_at", (defArgs s_groups_at), (defBody s_groups_at), (defScope s_groups_at)⟩]
def hfn1 : List DefE := [
  ⟨fun K => (He.ga K "clusters_of"), "clusters_of", "clusters_of", (defArgs s_clusters_of), (defBody s_clusters_of), (defScope s_clusters_of)⟩,
  ⟨fun K => (He.ga K "is_cluster"), "is_cluster", "is_cluster", (defArgs s_is_cluster), (defBody s_is_cluster), (defScope s_is_cluster)⟩,
  ⟨fun K => (He.ga K "joins_of"), "joins_of", "joins_of", (defArgs s_joins_of), (defBody s_joins_of), (defScope s_joins_of)⟩,
  ⟨fun K => (He.ga K "picked"), "picked", "picked", (defArgs s_picked), (defBody s_picked), (defScope s_picked)⟩,
  ⟨fun K => (He.ga K "check_cut"), "check_cut", "check_cut", (defArgs s_check_cut), (defBody s_check_cut), (defScope s_check_cut)⟩,
  ⟨fun K => (He.ga K "widest_pair"), "widest_pair", "widest_pair", (defArgs s_widest_pair), (defBody s_widest_pair), (defScope s_widest_pair)⟩,
  ⟨fun K => (He.ga K "greatest_gap"), "greatest_gap", "greatest_gap", (defArgs s_greatest_gap), (defBody s_greatest_gap), (defScope s_greatest_gap)⟩,
  ⟨fun K => (He.ga K "least_deviation"), "least_deviation", "least_deviation", (defArgs s_least_deviation), (defBody s_least_deviation), (defScope s_least_deviation)⟩,
  ⟨fun K => (He.ga K "raised_joins"), "raised_joins", "raised_joins", (defArgs s_raised_joins), (defBody s_raised_joins), (defScope s_raised_joins)⟩,
  ⟨fun K => (He.ga K "nearest_table"), "nearest_table", "nearest_table", (defArgs s_nearest_table), (defBody s_nearest_table), (defScope s_nearest_table)⟩,
  ⟨fun K => (He.ga K "nested_within"), "nested_within", "nested_within", (defArgs s_nested_within), (defBody s_nested_within), (defScope s_nested_within)⟩,
  ⟨fun K => (He.ga K "tree_of"), "tree_of", "tree_of", (defArgs s_tree_of), (defBody s_tree_of), (defScope s_tree_of)⟩,
  ⟨fun K => (He.ga K "items_of"), "items_of", "items_of", (defArgs s_items_of), (defBody s_items_of), (defScope s_items_of)⟩,
  ⟨fun K => (He.ga K "level_in"), "level_in", "level_in", (defArgs s_level_in), (defBody s_level_in), (defScope s_level_in)⟩,
  ⟨fun K => (He.ga K "table_of"), "table_of", "table_of", (defArgs s_table_of), (defBody s_table_of), (defScope s_table_of)⟩,
  ⟨fun K => (He.ga K "is_part"), "is_part", "is_part", (defArgs s_is_part), (defBody s_is_part), (defScope s_is_part)⟩,
  ⟨fun K => (He.ga K "is_tree"), "is_tree", "is_tree", (defArgs s_is_tree), (defBody s_is_tree), (defScope s_is_tree)⟩,
  ⟨fun K => (He.ga K "is_order"), "is_order", "is_order", (defArgs s_is_order), (defBody s_is_order), (defScope s_is_order)⟩,
  ⟨fun K => (He.ga K "relabeled"), "relabeled", "relabeled", (defArgs s_relabeled), (defBody s_relabeled), (defScope s_relabeled)⟩,
  ⟨fun K => (He.ga K "_law_draws"), "_law_draws", "_law_draws", (defArgs s_L_draws), (defBody s_L_draws), (defScope s_L_draws)⟩,
  ⟨fun K => (He.ga K "_law_next"), "_law_next", "_law_next", (defArgs s_L_next), (defBody s_L_next), (defScope s_L_next)⟩,
  ⟨fun K => (He.ga K "_law_one"), "_law_one", "_law_one", (defArgs s_L_one), (defBody s_L_one), (defScope s_L_one)⟩,
  ⟨fun K => (He.ga K "_law_equal"), "_law_equal", "_law_equal", (defArgs s_L_equal), (defBody s_L_equal), (defScope s_L_equal)⟩,
  ⟨fun K => (He.ga K "_law_count"), "_law_count", "_law_count", (defArgs s_L_count), (defBody s_L_count), (defScope s_L_count)⟩,
  ⟨fun K => (He.ga K "_law_grades"), "_law_grades", "_law_grades", (defArgs s_L_grades), (defBody s_L_grades), (defScope s_L_grades)⟩]
def hfn2 : List DefE := [
  ⟨fun K => (He.ga K "_law_level"), "_law_level", "_law_level", (defArgs s_L_level), (defBody s_L_level), (defScope s_L_level)⟩,
  ⟨fun K => (He.ga K "_law_nested"), "_law_nested", "_law_nested", (defArgs s_L_nested), (defBody s_L_nested), (defScope s_L_nested)⟩,
  ⟨fun K => (He.ga K "_law_raised"), "_law_raised", "_law_raised", (defArgs s_L_raised), (defBody s_L_raised), (defScope s_L_raised)⟩,
  ⟨fun K => (He.ga K "_law_levels"), "_law_levels", "_law_levels", (defArgs s_L_levels), (defBody s_L_levels), (defScope s_L_levels)⟩,
  ⟨fun K => (He.ga K "_law_any"), "_law_any", "_law_any", (defArgs s_L_any), (defBody s_L_any), (defScope s_L_any)⟩,
  ⟨fun K => (He.ga K "_law_table"), "_law_table", "_law_table", (defArgs s_L_table), (defBody s_L_table), (defScope s_L_table)⟩,
  ⟨fun K => (He.ga K "_law_tree_read"), "_law_tree_read", "_law_tree_read", (defArgs s_L_tree_read), (defBody s_L_tree_read), (defScope s_L_tree_read)⟩,
  ⟨fun K => (He.ga K "_law_tree_right"), "_law_tree_right", "_law_tree_right", (defArgs s_L_tree_right), (defBody s_L_tree_right), (defScope s_L_tree_right)⟩,
  ⟨fun K => (He.ga K "_law_board_right"), "_law_board_right", "_law_board_right", (defArgs s_L_board_right), (defBody s_L_board_right), (defScope s_L_board_right)⟩,
  ⟨fun K => (He.ga K "law"), "law", "law", (defArgs s_law), (defBody s_law), (defScope s_law)⟩,
  ⟨fun K => (He.ma K (He.ga K "Board") "__init__"), "__init__", "Board.__init__", (defArgs s_Board_init), (defBody s_Board_init), (defScope s_Board_init)⟩,
  ⟨fun K => (cmF K (He.ma K (He.ga K "Board") "read")), "read", "Board.read", (defArgs s_Board_read), (defBody s_Board_read), (defScope s_Board_read)⟩,
  ⟨fun K => (prF K (He.ma K (He.ga K "Board") "cut")), "cut", "Board.cut", (defArgs s_Board_cut), (defBody s_Board_cut), (defScope s_Board_cut)⟩,
  ⟨fun K => (prF K (He.ma K (He.ga K "Board") "groups")), "groups", "Board.groups", (defArgs s_Board_groups), (defBody s_Board_groups), (defScope s_Board_groups)⟩,
  ⟨fun K => (prF K (He.ma K (He.ga K "Board") "top")), "top", "Board.top", (defArgs s_Board_top), (defBody s_Board_top), (defScope s_Board_top)⟩,
  ⟨fun K => (He.ma K (He.ga K "Board") "__call__"), "__call__", "Board.__call__", (defArgs s_Board_call), (defBody s_Board_call), (defScope s_Board_call)⟩,
  ⟨fun K => (He.ma K (He.ga K "Board") "__contains__"), "__contains__", "Board.__contains__", (defArgs s_Board_contains), (defBody s_Board_contains), (defScope s_Board_contains)⟩,
  ⟨fun K => (He.ma K (He.ga K "Board") "table"), "table", "Board.table", (defArgs s_Board_table), (defBody s_Board_table), (defScope s_Board_table)⟩,
  ⟨fun K => (He.ma K (He.ga K "Board") "nested"), "nested", "Board.nested", (defArgs s_Board_nested), (defBody s_Board_nested), (defScope s_Board_nested)⟩,
  ⟨fun K => (He.ma K (He.ga K "Board") "joins"), "joins", "Board.joins", (defArgs s_Board_joins), (defBody s_Board_joins), (defScope s_Board_joins)⟩,
  ⟨fun K => (He.ma K (He.ga K "Board") "actions"), "actions", "Board.actions", (defArgs s_Board_actions), (defBody s_Board_actions), (defScope s_Board_actions)⟩,
  ⟨fun K => (He.ma K (He.ga K "Board") "__len__"), "__len__", "Board.__len__", (defArgs s_Board_len), (defBody s_Board_len), (defScope s_Board_len)⟩,
  ⟨fun K => (He.ma K (He.ga K "Board") "__eq__"), "__eq__", "Board.__eq__", (defArgs s_Board_eq), (defBody s_Board_eq), (defScope s_Board_eq)⟩,
  ⟨fun K => (He.ma K (He.ga K "Board") "__str__"), "__str__", "Board.__str__", (defArgs s_Board_str), (defBody s_Board_str), (defScope s_Board_str)⟩]
def hfn : List DefE := hfn0 ++ hfn1 ++ hfn2
def hlo0 : List Str := ["_wall", "ITEMS", "LEVEL", "__name__", "MergeError", "InvalidTable", "InvalidLevel", "InvalidOrder", "ParseError", "is_whole", "is_level", "is_item", "find_row_fault", "find_fault", "level_between", "levels_of", "pairs_of", "DIGITS", "number_of", "joined", "format_table", "format_tree", "count_in", "row_in", "parse_lines"]
def hlo1 : List Str := ["parse_table", "level_grid", "lowest_grid", "join_grid", "nested_below", "is_path", "group_of", "all_groups", "steps_of", "groups_at", "clusters_of", "is_cluster", "joins_of", "picked", "check_cut", "Board", "widest_pair", "greatest_gap", "least_deviation", "raised_joins", "nearest_table", "nested_within", "tree_of", "items_of", "level_in"]
def hlo2 : List Str := ["table_of", "is_part", "is_tree", "is_order", "relabeled", "_law_draws", "_law_next", "_law_one", "_law_equal", "_law_count", "_law_grades", "_law_level", "_law_nested", "_law_raised", "_law_levels", "_law_any", "_law_table", "_law_tree_read", "_law_tree_right", "_law_board_right"]
def hlo : List Str := hlo0 ++ hlo1 ++ hlo2
abbrev hR : PySem.W.OpenRow := PySem.W.OpenLaw.row PySem.Challenge.rw_mergelevels_k80_whole_texts_there_and_ba
def hhx (K : PySem.W.Frag) : List Int := []
def hhv (w : World) : List Int := []
abbrev hk : PySem.W.Hook := hook3 5 hfs hfn hhx hhv
def hq : Program := PySem.W.view hR.prog [80]
set_option maxHeartbeats 0 in
theorem hrA (w : World) (os : OsState) : (HandSHeadRun.endF (HandSHeadRun.stepQ (HandSHeadRun.denQ HandSHeadRun.tabQ) hR.prog w) 20000 hR.prog w os).map (fun s => HandSHeadRun.looksF hR.prog (PySem.W.boot_heap w.params) s.abs) = some true := by kernel_rfl
set_option maxHeartbeats 0 in
theorem hrB (w : World) (os : OsState) : (HandSHeadRun.endF (HandSHeadRun.stepQ (HandSHeadRun.denQ HandSHeadRun.tabQ) hR.prog w) 20000 hR.prog w os).map (fun s => HandSHeadRun.seenQ (PySem.W.view hR.prog [80]) hlo (PySem.importedModules hR.prog.main.body) (fun s => PySem.W.xlAt (PySem.W.view hR.prog [80]) [] s && PySem.W.recOk hR.toRowW.records s) s.abs) = some (PySem.W.openGood (PySem.W.view hR.prog [80]) hlo) := by kernel_rfl
set_option maxHeartbeats 0 in
theorem hrF0 (w : World) (os : OsState) : (HandSHeadRun.endF (HandSHeadRun.stepQ (HandSHeadRun.denQ HandSHeadRun.tabQ) hR.prog w) 20000 hR.prog w os).map (fun s => hfp0.all fun f => f (kOf 5 s)) = some true := by kernel_rfl
set_option maxHeartbeats 0 in
theorem hrD (w : World) (os : OsState) : (HandSHeadRun.endF (HandSHeadRun.stepQ (HandSHeadRun.denQ HandSHeadRun.tabQ) hR.prog w) 20000 hR.prog w os).map (fun s => ((hfn.all fun d => d.ok (kOf 5 s), hfn.map fun d => d.obs (kOf 5 s)), hhx (kOf 5 s))) = some ((true, hfn.map DefE.val), hhv w) := by kernel_rfl
theorem hrun (w : World) : HandSHeadRun.RunEq hR (PySem.W.view hR.prog [80]) hk (ob3 5 hfs hfn hhx) 20000 hlo w := run_of3 (hrA w) (hrB w) (fun l hl => by
  simp only [hfs, List.mem_cons, List.not_mem_nil, or_false] at hl
  rcases hl with rfl
  exact hrF0 w) (hrD w)
/-! ### the names of the module -/
structure Bi (mg : Str → Option Value) : Prop where
  len : mg "len" = none
  list : mg "list" = none
  int : mg "int" = none
  range : mg "range" = none
  sorted : mg "sorted" = none
  set : mg "set" = none
  tuple : mg "tuple" = none
  min : mg "min" = none
  max : mg "max" = none
  isinstance : mg "isinstance" = none
  bool : mg "bool" = none
  str : mg "str" = none
  all : mg "all" = none
  zip : mg "zip" = none
  repr : mg "repr" = none
  enumerate : mg "enumerate" = none
  abs : mg "abs" = none
  sum : mg "sum" = none
  dict : mg "dict" = none
structure Df (K : PySem.W.Frag) (mg : Str → Option Value) (x : Str) (st : Stmt) (f : Addr) (fd : FuncData) (ps : List Str) : Prop where
  F : Fun K x x st f fd
  b : Binds K fd ps []
  g : mg x = some (.ref f)
section
variable {X : Cx} {k : Nat} {f : Addr} {fd : FuncData} {ps : List Str} {sp : Sp} {x : Str} {p pos : Pos} {e : Expr} {es : List Expr} {t : TA} {st : Stmt}
theorem pe_cl (D : Df X.K X.mg x st f fd ps) (G : FnOk X.prog X.w X.K X.mg X.base CX0 k f fd ps sp) (hr : Room k X.A) (ha : PA X (e :: es) t) (hg : Gl X x := by rfl) (hdb : (x == ("__debug__" : Str)) = false := by decide)
    (he : starEach (e :: es) X.env = (false, eval e X.env) :: starEach es X.env := by rfl) (hpl : (backTo pos (starEach es X.env)).any (·.1) = false := by rfl) : PE X (.Call (.Name x p) (e :: es) [] pos) (tCall sp [] E0 t) :=
  pe_call G hr hg D.g D.F.kp D.b .nil pass0 ha hdb he hpl
theorem pe_len {a : Expr} {ta : TE} (B : Bi X.mg) (ha : PE X a ta) (hg : Gl X "len" := by rfl) (he : starEach [a] X.env = (false, eval a X.env) :: starEach [] X.env := by rfl) :
    PE X (.Call (.Name "len" p) [a] [] pos) (tCB (fun xs H Q => ∃ p ys, xs = [.ref p] ∧ (SqL X.K H p ys ∨ SqT X.K H p ys) ∧ Q (.int ys.length) H) (tCons ta tNil)) :=
  pe_callB call_len_seq hg B.len PySem.boot_len (pa_cons ha pa_nil he) (by decide) (by decide) he
end
section
variable {P : Program} {w : World} {K : PySem.W.Frag} {mg : Str → Option Value} {base : Heap}
/-! ### drawing -/
def sp_next : Sp := fun vs H Q _ => ∃ (d c r : Addr) (n : Nat) (m : Int), vs = [.ref d, .int m] ∧ Dr H d c r n ∧ n ≤ 900000 ∧ 0 < m ∧ m ≤ 1000000000000000000000000000000 ∧
  ∀ (H' : Hp) (k : Nat), (k : Int) < m → Dr H' d c r (n + 1) → Kp d r H H' → Q (.int (k : Int)) H'
theorem ok_next {f : Addr} {fd : FuncData} {k : Nat} (F : Fun K "_law_next" "_law_next" s_L_next f fd) (B : Bi mg) : FnOk P w K mg base CX0 (k + 1) f fd ["_law_drawn", "_law_many"] sp_next := by
  refine F.ok sc_L_next (fun vs H Q E h => ?_) (fun cdv A outer s H vs Q E hr h => ?_)
  · obtain ⟨d, c, r, n, m, rfl, _⟩ := h
    rfl
  · obtain ⟨d, c, r, n, m, rfl, hD, hn, hm0, hm1, q⟩ := h
    have nd := sc_L_next.nd
    refine ⟨_, pss_cons (ps_asg (pv 0) (pg_unl rfl (pgs_cons (pg_name (i := 2) nd rfl (.inl rfl)) (pgs_cons (pg_name (i := 3) nd rfl (.inl rfl)) (pgs_cons (pg_name (i := 4) nd rfl (.inl rfl)) pgs_nil)))))
      (pss_cons (ps_set (i := 5) nd rfl (.inl rfl) (pe_op op_mod (pv 3) (pe_len B (pv 2))))
      (pss_cons (ps_asg (pe_op op_add (pv 3) pe_int) (pg_sub (pv 0) pe_int set_list))
      (pss_cons (ps_if (pt_cmpR op_gt (pe_ix ix_list (pv 4) (pv 5) (fun _ _ => rfl)) pe_int (nomark _))
        (pss_cons (ps_set (i := 6) nd rfl (.inl rfl) (pe_op op_mod (pe_ix ix_list (pv 4) (pv 5) (fun _ _ => rfl)) (pv 1)))
        (pss_cons (ps_asg (pe_op op_fdivW (pe_ix ix_list (pv 4) (pv 5) (fun _ _ => rfl)) (pv 1)) (pg_sub (pv 4) (pv 5) set_list))
        (pss_one (ps_ret (pv 6))))) pss_nil)
      (pss_cons (ps_set (i := 7) nd rfl (.inl rfl) (pe_op op_mod (pe_op op_pow (pe_op op_add (pe_op op_add (pe_op op_mod (pe_ix ix_list (pv 2) (pv 5) (fun _ _ => rfl)) pe_int) (pe_op op_mul pe_int (pv 3))) pe_int) pe_int) pe_int))
      (pss_cons (ps_set (i := 8) nd rfl (.inl rfl) (pe_op op_mod (pe_op op_pow (pe_op op_add (pe_op op_add (pv 7) (pe_op op_mul (pe_op op_mul pe_int (pv 3)) (pv 3))) pe_int) pe_int) pe_int))
      (pss_one (ps_ret (pe_op op_mod (pe_op op_mod (pe_op op_add (pe_op op_mul (pv 8) pe_int) (pv 7)) pe_int) (pv 1))))))))), ?_⟩
    obtain ⟨⟨cells, rests, t, hd, hc, hr', hlen, h0, h64, ht, hpos⟩, dc, dr, cr⟩ := hD
    -- the three names
    refine ⟨.ref d, rfl, d, _, rfl, SqL.of hd, rfl, _, _, rfl, _, _, rfl, _, _, rfl, rfl, ?_⟩
    -- the place
    refine ⟨.int (t : Int), rfl, .ref c, rfl, c, _, rfl, .inl (SqL.of hc), _, _, rfl, rfl, by rw [List.length_map]; omega, ?_⟩
    obtain ⟨sp, hsp⟩ : ∃ sp : Nat, sp = t % cells.length := ⟨_, rfl⟩
    have esp : (t : Int) % ((cells.map V.int).length : Int) = (sp : Int) := by rw [List.length_map, hsp]; exact (Int.natCast_emod t cells.length).symm
    have lsp : sp < cells.length := by rw [hsp]; exact Nat.mod_lt _ h0
    have lsr : sp < rests.length := by omega
    dsimp only
    rw [esp]
    -- one more
    refine ⟨.int (t : Int), rfl, _, _, rfl, rfl, .ref d, rfl, d, _, 1, 1, rfl, rfl, hd, rfl, ?_⟩
    generalize hH1 : upd H d (.lst (List.set [.ref c, .int (t : Int), .ref r] 1 (.int ((t : Int) + 1)))) = H1
    have hd1 : H1 d = some (.lst [.ref c, .int ((t + 1 : Nat) : Int), .ref r]) := by rw [← hH1, upd_same]; rfl
    have hc1 : H1 c = some (.lst (cells.map V.int)) := by rw [← hH1, upd_ne dc.symm]; exact hc
    have hr1 : H1 r = some (.lst (rests.map V.int)) := by rw [← hH1, upd_ne dr.symm]; exact hr'
    have k1 : Kp d r H H1 := fun b o e n1 n2 => by rw [← hH1, upd_ne n1]; exact e
    have er := getD_at lsr
    have rAt : atI (rests.map V.int) (sp : Int) = some (.int (rests.getD sp 0)) := atI_nat (map_at er)
    have ec := getD_at lsp
    have cAt : atI (cells.map V.int) (sp : Int) = some (.int (cells.getD sp 0)) := atI_nat (map_at ec)
    refine ⟨.ref r, rfl, .int (sp : Int), rfl, r, _, _, _, rfl, rfl, SqL.of hr1, rAt, _, _, rfl, rfl, _, rfl, ite2 (fun hg => ?_) (fun hg => ?_)⟩
    · have hg : (0 : Int) < rests.getD sp 0 := of_decide_eq_true hg
      refine ⟨.ref r, rfl, .int (sp : Int), rfl, r, _, _, _, rfl, rfl, SqL.of hr1, rAt, .int m, rfl, _, _, rfl, rfl, hm0, ?_⟩
      refine ⟨.ref r, rfl, .int (sp : Int), rfl, r, _, _, _, rfl, rfl, SqL.of hr1, rAt, .int m, rfl, _, _, rfl, rfl, wide_div (b := 128) hm0 (by omega) (by decide) (by decide), ?_⟩
      refine ⟨.ref r, rfl, .int (sp : Int), rfl, r, _, _, sp, rfl, rfl, hr1, ixN_at (by rw [List.length_map]; exact lsr), ?_⟩
      refine ⟨_, rfl, ?_⟩
      have hz := Int.emod_nonneg (rests.getD sp 0) (by omega : m ≠ 0)
      have hl := Int.emod_lt_of_pos (rests.getD sp 0) hm0
      dsimp only
      rw [show rests.getD sp 0 % m = ((rests.getD sp 0 % m).toNat : Int) from (Int.toNat_of_nonneg hz).symm]
      refine q _ _ (by omega) ⟨⟨cells, rests.set sp (rests.getD sp 0 / m), t + 1, ?_, ?_, ?_, ?_, h0, h64, by omega, ?_⟩, dc, dr, cr⟩ ?_
      · rw [upd_ne dr]; exact hd1
      · rw [upd_ne cr]; exact hc1
      · rw [upd_same, List.map_set]
      · rw [List.length_set]; exact hlen
      · intro x hx
        rcases List.mem_or_eq_of_mem_set hx with hx | hx
        · exact hpos x hx
        · rw [hx]; exact Int.ediv_nonneg (Int.le_of_lt hg) (Int.le_of_lt hm0)
      · intro b o e n1 n2
        rw [upd_ne n2]
        exact k1 b o e n1 n2
    · have ht6 : t ≤ 900000 := Nat.le_trans ht hn
      have htt : t * t ≤ 900000 * 900000 := Nat.mul_le_mul ht6 ht6
      have httI : (t : Int) * (t : Int) ≤ 900000 * 900000 := Int.mul_le_mul (by omega) (by omega) (by omega) (by omega)
      have htt0 : (0 : Int) ≤ (t : Int) * (t : Int) := Int.mul_nonneg (by omega) (by omega)
      have c0 := Int.emod_nonneg (cells.getD sp 0) (show (2147483629 : Int) ≠ 0 by decide)
      have c1 := Int.emod_lt_of_pos (cells.getD sp 0) (show (0 : Int) < 2147483629 by decide)
      refine ⟨.ref c, rfl, .int (sp : Int), rfl, c, _, _, _, rfl, rfl, SqL.of hc1, cAt, _, _, rfl, rfl, (by show (0 : Int) < 2147483629; decide), .int (t : Int), rfl, _, _, rfl, rfl, .inl ⟨by decide, by decide⟩, _, _, rfl, rfl, _, _, rfl, rfl, _, _, rfl, rfl, ⟨by decide, by decide, by omega⟩, _, _, rfl, rfl, (by show (0 : Int) < 2147483587; decide), ?_⟩
      generalize hX : (cells.getD sp 0 % 2147483629 + 48611 * (t : Int) + 12007) ^ ((3 : Int).toNat) = X3
      have m0 := Int.emod_nonneg X3 (show (2147483587 : Int) ≠ 0 by decide)
      have m1 := Int.emod_lt_of_pos X3 (show (0 : Int) < 2147483587 by decide)
      have e3 : 6007 * (t : Int) * (t : Int) = 6007 * ((t : Int) * (t : Int)) := Int.mul_assoc _ _ _
      refine ⟨.int (X3 % 2147483587), rfl, .int (t : Int), rfl, _, _, rfl, rfl, .inl ⟨by decide, by decide⟩, .int (t : Int), rfl, _, _, rfl, rfl, .inr ⟨by omega, by omega⟩, _, _, rfl, rfl, _, _, rfl, rfl, _, _, rfl, rfl, ⟨by decide, by decide, by omega⟩, _, _, rfl, rfl, (by show (0 : Int) < 2147483563; decide), ?_⟩
      generalize hY : (X3 % 2147483587 + 6007 * (t : Int) * (t : Int) + 53) ^ ((3 : Int).toNat) = Y3
      refine ⟨.int (Y3 % 2147483563), rfl, _, _, rfl, rfl, .inr ⟨by decide, by decide⟩, .int (X3 % 2147483587), rfl, _, _, rfl, rfl, _, _, rfl, rfl, (by show (0 : Int) < 4611686018427387847; decide), .int m, rfl, _, _, rfl, rfl, hm0, ?_⟩
      generalize hZ : (Y3 % 2147483563 * 2147483423 + X3 % 2147483587) % 4611686018427387847 = Z
      have hz := Int.emod_nonneg Z (by omega : m ≠ 0)
      have hl := Int.emod_lt_of_pos Z hm0
      dsimp only
      rw [show Z % m = ((Z % m).toNat : Int) from (Int.toNat_of_nonneg hz).symm]
      exact q _ _ (by omega) ⟨⟨cells, rests, t + 1, hd1, hc1, hr1, hlen, h0, h64, by omega, hpos⟩, dc, dr, cr⟩ k1
end
section
variable {P : Program} {w : World} {K : PySem.W.Frag} {mg : Str → Option Value} {base : Heap}
def sp_one (K : PySem.W.Frag) : Sp := fun vs H Q _ => ∃ (d c r : Addr) (n : Nat) (l : Addr) (xs : List V), vs = [.ref d, .ref l] ∧ Dr H d c r n ∧ n ≤ 900000 ∧ SqL K H l xs ∧ l ≠ d ∧ l ≠ r ∧ 0 < xs.length ∧ xs.length ≤ 1000 ∧
  ∀ (H' : Hp) (i : Nat) (v : V), xs[i]? = some v → Dr H' d c r (n + 1) → Kp d r H H' → Q v H'
theorem ok_one {f fN : Addr} {fd fdN : FuncData} (F : Fun K "_law_one" "_law_one" s_L_one f fd) (DN : Df K mg "_law_next" s_L_next fN fdN ["_law_drawn", "_law_many"]) (B : Bi mg) : FnOk P w K mg base CX0 2 f fd ["_law_drawn", "_law_items"] (sp_one K) := by
  have GN : FnOk P w K mg base CX0 1 fN fdN ["_law_drawn", "_law_many"] sp_next := ok_next DN.F B
  refine F.ok sc_L_one (fun vs H Q E h => ?_) (fun cdv A outer s H vs Q E hr h => ?_)
  · obtain ⟨d, c, r, n, l, xs, rfl, _⟩ := h
    rfl
  · obtain ⟨d, c, r, n, l, xs, rfl, hD, hn, hl, ld, lr, h0, h1, q⟩ := h
    refine ⟨_, pss_one (ps_ret (pe_ix ix_list (pv 1) (pe_cl DN GN hr (pa_cons (pv 0) (pa_cons (pe_len B (pv 1)) pa_nil))) (fun _ _ => rfl))), ?_⟩
    refine ⟨.ref l, rfl, .ref d, rfl, .ref l, rfl, l, xs, rfl, .inl hl, d, c, r, n, _, rfl, hD, hn, by omega, by omega, fun H' k hk hD' kp => ?_⟩
    have hk' : k < xs.length := by omega
    exact ⟨l, xs, k, xs[k], rfl, rfl, kp.sqL ld lr hl, atI_nat (List.getElem?_eq_getElem hk'), q H' k _ (List.getElem?_eq_getElem hk') hD' kp⟩
/-! ### a count -/
def sp_count : Sp := fun vs H Q _ => ∃ (d c r : Addr) (n : Nat) (m : Int), vs = [.ref d, .int m] ∧ Dr H d c r n ∧ n ≤ 800000 ∧ 1 ≤ m ∧ m ≤ 1000 ∧
  ∀ (H' : Hp) (k : Nat), 1 ≤ k → (k : Int) ≤ m → Dr H' d c r (n + 3) → Kp d r H H' → Q (.int (k : Int)) H'
theorem ok_count {f fN : Addr} {fd fdN : FuncData} (F : Fun K "_law_count" "_law_count" s_L_count f fd) (DN : Df K mg "_law_next" s_L_next fN fdN ["_law_drawn", "_law_many"]) (B : Bi mg) : FnOk P w K mg base CX0 2 f fd ["_law_drawn", "_law_most"] sp_count := by
  have GN : FnOk P w K mg base CX0 1 fN fdN ["_law_drawn", "_law_many"] sp_next := ok_next DN.F B
  refine F.ok sc_L_count (fun vs H Q E h => ?_) (fun cdv A outer s H vs Q E hr h => ?_)
  · obtain ⟨d, c, r, n, m, rfl, _⟩ := h
    rfl
  · obtain ⟨d, c, r, n, m, rfl, hD, hn, h1, h2, q⟩ := h
    refine ⟨_, pss_one (ps_ret (pe_ix ix_list (pe_lst (pa_cons (pv 1) (pa_cons (pe_op op_add pe_int (pe_cl DN GN hr (pa_cons (pv 0) (pa_cons (pv 1) pa_nil))))
      (pa_cons (pe_op op_add pe_int (pe_cl DN GN hr (pa_cons (pv 0) (pa_cons (pe_callB (call_min2 rfl) (by rfl) B.min (by decide +kernel) (pa_cons (pv 1) (pa_cons pe_int pa_nil))) pa_nil)))) pa_nil))))
      (pe_cl DN GN hr (pa_cons (pv 0) (pa_cons pe_int pa_nil))) (fun _ _ => rfl))), ?_⟩
    refine ⟨.int m, rfl, .ref d, rfl, .int m, rfl, d, c, r, n, m, rfl, hD, by omega, by omega, by omega, fun H1 k1 l1 D1 kp1 => ?_⟩
    refine ⟨_, _, rfl, rfl, .ref d, rfl, .int m, rfl, _, _, rfl, d, c, r, n + 1, _, rfl, D1, by omega, ?_, ?_, fun H2 k2 l2 D2 kp2 => ?_⟩
    · split <;> omega
    · split <;> omega
    refine ⟨_, _, rfl, rfl, (by show 3 ≤ sizeLine; decide), fun p hp => ?_⟩
    have kp12 := kp1.trans kp2
    refine ⟨.ref d, rfl, d, c, r, n + 2, 3, rfl, D2.new hp, by omega, by decide, by decide, fun H3 k3 l3 D3 kp3 => ?_⟩
    have np := D2.ne hp
    have hp3 : H3 p = _ := kp3 p _ upd_same np.1 np.2.2
    have kp : Kp d r H H3 := kp12.trans ((Kp.new hp).trans kp3)
    have lm : (if (4 : Int) < m then (4 : Int) else m) ≤ m := by split <;> omega
    match k3, l3 with
    | 0, _ => exact ⟨p, _, 0, .int m, rfl, rfl, SqL.of hp3, rfl, by rw [show m = (m.toNat : Int) from (Int.toNat_of_nonneg (by omega)).symm]; exact q H3 m.toNat (by omega) (by omega) D3 kp⟩
    | 1, _ => exact ⟨p, _, 1, .int (1 + (k1 : Int)), rfl, rfl, SqL.of hp3, rfl, by rw [show 1 + (k1 : Int) = ((1 + k1 : Nat) : Int) by omega]; exact q H3 (1 + k1) (by omega) (by omega) D3 kp⟩
    | 2, _ => exact ⟨p, _, 2, .int (1 + (k2 : Int)), rfl, rfl, SqL.of hp3, rfl, by rw [show 1 + (k2 : Int) = ((1 + k2 : Nat) : Int) by omega]; exact q H3 (1 + k2) (by omega) (by omega) D3 kp⟩
    | k + 3, l3 => omega
end
section
variable {P : Program} {w : World} {K : PySem.W.Frag} {mg : Str → Option Value} {base : Heap}
/-! ### levels to choose from -/
def GrOk (ns : List Int) : Prop := 0 < ns.length ∧ ns.length ≤ 8 ∧ ∀ x ∈ ns, LvOk x
def sp_grades : Sp := fun vs H Q _ => ∃ (d c r : Addr) (n : Nat), vs = [.ref d] ∧ Dr H d c r n ∧ n ≤ 800000 ∧
  ∀ (H' : Hp) (g : Addr) (ns : List Int), H g = none → H' g = some (.lst (ns.map V.int)) → GrOk ns → Dr H' d c r (n + 9) → Kp d r H H' → g ≠ d → g ≠ c → g ≠ r → Q (.ref g) H'
theorem ok_grades {f fN : Addr} {fd fdN : FuncData} (F : Fun K "_law_grades" "_law_grades" s_L_grades f fd) (DN : Df K mg "_law_next" s_L_next fN fdN ["_law_drawn", "_law_many"]) (B : Bi mg) : FnOk P w K mg base CX0 2 f fd ["_law_drawn"] sp_grades := by
  have GN : FnOk P w K mg base CX0 1 fN fdN ["_law_drawn", "_law_many"] sp_next := ok_next DN.F B
  refine F.ok sc_L_grades (fun vs H Q E h => ?_) (fun cdv A outer s H vs Q E hr h => ?_)
  · obtain ⟨d, c, r, n, rfl, _⟩ := h
    rfl
  · obtain ⟨d, c, r, n, rfl, hD, hn, q⟩ := h
    have nd := sc_L_grades.nd
    refine ⟨_, pss_cons (ps_par (i := 1) (j := 2) rfl nd rfl rfl (by decide) rfl rfl (pa_cons (pe_cl DN GN hr (pa_cons (pv 0) (pa_cons pe_int pa_nil))) (pa_cons (pe_op op_add pe_int (pe_cl DN GN hr (pa_cons (pv 0) (pa_cons pe_int pa_nil)))) pa_nil)) rfl)
      (pss_cons (ps_set (i := 3) nd rfl (.inr rfl) (pe_ix ix_list (pe_lst (pa_cons pe_int (pa_cons pe_int (pa_cons pe_int (pa_cons pe_int (pa_cons (pe_op op_pow pe_int pe_int) pa_nil)))))) (pv 1) (fun _ _ => rfl)))
      (pss_cons (ps_setLc (i := 4) (own := [("_law_k", 5)]) (g := gName 5) (tt := tYes) rfl nd rfl rfl (sw_true rfl rfl rfl (by decide +kernel)) (pi_range1 rfl B.range (pa_cons (pv 2) pa_nil)) (blkOk_by (N := N_L_grades) (sc := defScope s_L_grades) (by decide +kernel))
        (fun _ _ _ _ _ => pg_name (i := 5) nd rfl (.inl rfl)) (fun _ _ _ _ _ => pts_nil)
        (fun _ _ _ _ _ => pe_op op_add pe_int (pe_cl DN GN hr (pa_cons (pv 0) (pa_cons (pv 3) pa_nil)))))
      (pss_one (ps_ret (pe_callB (cr_sortedSet rfl) (by rfl) B.sorted (by decide +kernel) (pa_cons (pe_callTy (cr_setL1 rfl) (by rfl) B.set (by decide +kernel)
        (pa_cons (pe_op op_cat (pv 4) (pe_op op_rep (pe_lst (pa_cons (pe_op op_pow pe_int pe_int) pa_nil)) (pe_callTy call_int1 (by rfl) B.int (by decide +kernel) (pa_cons (pe_cmpR op_eq (pe_cl DN GN hr (pa_cons (pv 0) (pa_cons pe_int pa_nil))) pe_int (nomark _)) pa_nil)))) pa_nil)) pa_nil)))))), ?_⟩
    refine ⟨.ref d, rfl, d, c, r, n, 5, rfl, hD, by omega, by decide, by decide, fun H1 k1 l1 D1 kp1 => ?_⟩
    refine ⟨.ref d, rfl, d, c, r, n + 1, 6, rfl, D1, by omega, by decide, by decide, fun H2 k2 l2 D2 kp2 => ?_⟩
    refine ⟨_, _, rfl, rfl, _, _, rfl, ?_⟩
    have kp12 := kp1.trans kp2
    -- wide
    refine ⟨_, _, rfl, rfl, ⟨by decide, by decide, by decide⟩, (by show 5 ≤ sizeLine; decide), fun p hp => ?_⟩
    have D3 : Dr (upd H2 p (.lst [.int 2, .int 4, .int 12, .int 100, .int (10 ^ (12 : Int).toNat)])) d c r (n + 2) := D2.new hp
    obtain ⟨wd, hwd, w0, w1⟩ : ∃ wd : Int, atI [V.int 2, .int 4, .int 12, .int 100, .int (10 ^ (12 : Int).toNat)] (k1 : Int) = some (.int wd) ∧ 0 < wd ∧ wd ≤ 1000000000000 := by
      match k1, l1 with
      | 0, _ => exact ⟨2, rfl, by decide, by decide⟩
      | 1, _ => exact ⟨4, rfl, by decide, by decide⟩
      | 2, _ => exact ⟨12, rfl, by decide, by decide⟩
      | 3, _ => exact ⟨100, rfl, by decide, by decide⟩
      | 4, _ => exact ⟨10 ^ (12 : Int).toNat, rfl, by decide, by decide⟩
      | k + 5, l => omega
    refine ⟨.int (k1 : Int), rfl, p, _, _, _, rfl, rfl, SqL.of upd_same, hwd, ?_⟩
    have kp3 : Kp d r H (upd H2 p (.lst [.int 2, .int 4, .int 12, .int 100, .int (10 ^ (12 : Int).toNat)])) := kp12.trans (Kp.new hp)
    generalize upd H2 p (.lst [.int 2, .int 4, .int 12, .int 100, .int (10 ^ (12 : Int).toNat)]) = H3 at D3 kp3
    -- the found ones
    refine ⟨.int (1 + (k2 : Int)), rfl, _, rfl, by omega, by omega, fun D hDn => lc_range (n := (1 + (k2 : Int)).toNat) (fun i Hx => ∃ ns : List Int, Hx D = some (.lst (ns.map V.int)) ∧ ns.length = i ∧ (∀ x ∈ ns, LvOk x) ∧ Dr Hx d c r (n + 2 + i) ∧ Kp d r H3 Hx) ⟨[], upd_same, rfl, fun x hx => by simp at hx, D3.new hDn, Kp.new hDn⟩ (fun i Hx hi hP => ?_) (fun Hx hP => ?_)⟩
    · obtain ⟨ns, h1, h2, h3, h4, h5⟩ := hP
      refine ⟨rfl, .ref d, rfl, .int wd, rfl, d, c, r, n + 2 + i, wd, rfl, h4, by omega, w0, by omega, fun H4 k4 l4 D4 kp4 => ?_⟩
      have nD := D3.ne hDn
      have hD4 : H4 D = some (.lst (ns.map V.int)) := kp4 D _ h1 nD.1 nD.2.2
      refine ⟨_, _, rfl, rfl, ns.map V.int, hD4, by rw [List.length_map]; exact small1000 (by omega), ns ++ [1 + (k4 : Int)], ?_, by rw [List.length_append, h2]; rfl, ?_, D4.upd nD.1 nD.2.1 nD.2.2, ?_⟩
      · rw [upd_same, List.map_append]; rfl
      · intro x hx
        rcases List.mem_append.mp hx with hx | hx
        · exact h3 x hx
        · rw [List.mem_singleton.mp hx]; exact ⟨by omega, by omega⟩
      · intro b o e n1 n2
        by_cases hb : b = D
        · rw [hb, hDn] at e; cases e
        · rw [upd_ne hb]; exact kp4 b o (h5 b o e n1 n2) n1 n2
    · obtain ⟨ns, h1, h2, h3, h4, h5⟩ := hP
      have nD := D3.ne hDn
      have e2 : (1 + (k2 : Int)).toNat = 1 + k2 := by omega
      rw [e2] at h2 h4
      -- sorted(set(found + [10 ** 12] * int(next == 0)))
      refine ⟨.ref D, rfl, _, _, rfl, rfl, ⟨by decide, by decide, by decide⟩, (by show 1 ≤ sizeLine; decide), fun p5 hp5 => ?_⟩
      refine ⟨.ref d, rfl, d, c, r, n + 2 + (1 + k2), 8, rfl, h4.new hp5, by omega, by decide, by decide, fun H6 k6 l6 D6 kp6 => ?_⟩
      have np5 := h4.ne hp5
      have hp6 : H6 p5 = some (.lst [.int (10 ^ (12 : Int).toNat)]) := kp6 p5 _ upd_same np5.1 np5.2.2
      have hD6 : H6 D = some (.lst (ns.map V.int)) := kp6 D _ (by rw [upd_ne (ne_of_none h1 hp5)]; exact h1) nD.1 nD.2.2
      obtain ⟨kk, ek, ekk⟩ : ∃ kk : Int, (if decide (V.int (k6 : Int) = V.int 0) = true then (1 : Int) else 0) = kk ∧ (kk = 0 ∨ kk = 1) := ⟨_, rfl, by split <;> simp⟩
      refine ⟨rfl, .inr ⟨_, rfl, ?_⟩⟩
      rw [ek]
      refine ⟨p5, kk, _, rfl, rfl, hp6, by omega, by omega, ?_, fun p7 hp7 => ?_⟩
      · show 1 * kk.toNat ≤ sizeLine
        rcases ekk with e | e <;> rw [e] <;> decide
      obtain ⟨ms, em, lm, hm⟩ : ∃ ms : List Int, (List.replicate kk.toNat [V.int (10 ^ (12 : Int).toNat)]).flatten = ms.map V.int ∧ ms.length ≤ 1 ∧ ∀ x ∈ ms, LvOk x := by
        rcases ekk with e | e
        · exact ⟨[], by rw [e]; rfl, by decide, fun x hx => by simp at hx⟩
        · exact ⟨[10 ^ (12 : Int).toNat], by rw [e]; rfl, by decide, fun x hx => by rw [List.mem_singleton.mp hx]; exact ⟨by decide, by decide⟩⟩
      rw [em]
      have hD7 : (upd H6 p7 (.lst (ms.map V.int))) D = some (.lst (ns.map V.int)) := by rw [upd_ne (ne_of_none hD6 hp7)]; exact hD6
      refine ⟨D, p7, _, _, rfl, rfl, hD7, upd_same, ?_, fun p8 hp8 => ?_⟩
      · rw [List.length_map, List.length_map]; exact Nat.le_of_lt (small1000 (by omega))
      rw [← List.map_append]
      refine ⟨p8, ns ++ ms, rfl, SqL.of upd_same, by rw [List.length_append]; omega, fun p9 cn hp9 hcn => ?_⟩
      refine ⟨p9, _, cn, rfl, upd_same, by rw [List.length_append] at hcn; omega, fun out g hsort hmem hlen hg => ?_⟩
      have D7 := D6.new (o := .lst (ms.map V.int)) hp7
      have D8 := D7.new (o := .lst ((ns ++ ms).map V.int)) hp8
      have D9 := D8.new (o := SetO w p9 (fun j => decide (j ∈ ns ++ ms)) cn) hp9
      have D10 := D9.new (o := .lst (out.map V.int)) hg
      have ng := D9.ne hg
      have kpE : Kp d r H _ := kp3.trans (h5.trans ((Kp.new (o := .lst [.int (10 ^ (12 : Int).toNat)]) hp5).trans (kp6.trans ((Kp.new (o := .lst (ms.map V.int)) hp7).trans ((Kp.new (o := .lst ((ns ++ ms).map V.int)) hp8).trans ((Kp.new (o := SetO w p9 (fun j => decide (j ∈ ns ++ ms)) cn) hp9).trans (Kp.new (o := .lst (out.map V.int)) hg)))))))
      have hgH : H g = none := by
        cases e : H g with
        | none => rfl
        | some o =>
          have z := (kp3.trans (h5.trans ((Kp.new (o := .lst [.int (10 ^ (12 : Int).toNat)]) hp5).trans (kp6.trans ((Kp.new (o := .lst (ms.map V.int)) hp7).trans ((Kp.new (o := .lst ((ns ++ ms).map V.int)) hp8).trans (Kp.new (o := SetO w p9 (fun j => decide (j ∈ ns ++ ms)) cn) hp9))))))) g o e ng.1 ng.2.2
          have hg' : upd (upd (upd H6 p7 (.lst (ms.map V.int))) p8 (.lst ((ns ++ ms).map V.int))) p9 (SetO w p9 (fun j => decide (j ∈ ns ++ ms)) cn) g = none := hg
          rw [hg'] at z
          cases z
      have mem : ∀ x, x ∈ out ↔ x ∈ ns ++ ms := fun x => by rw [hmem x]; exact decide_eq_true_iff
      refine q _ g out hgH upd_same ⟨?_, ?_, fun x hx => ?_⟩ (D10.mono (by omega)) kpE ng.1 ng.2.1 ng.2.2
      · have h0 : 0 < ns.length := by omega
        have : ns[0] ∈ out := (mem _).mpr (List.mem_append_left _ (List.getElem_mem h0))
        exact List.length_pos_of_mem this
      · rw [List.length_append] at hcn
        omega
      · rcases List.mem_append.mp ((mem x).mp hx) with hx | hx
        · exact h3 x hx
        · exact hm x hx
end
section
variable {P : Program} {w : World} {K : PySem.W.Frag} {mg : Str → Option Value} {base : Heap}
/-! ### the level between two -/
theorem min_nat (i j : Nat) : (if (j : Int) < (i : Int) then (j : Int) else (i : Int)) = ((min i j : Nat) : Int) := by
  split <;> omega
theorem max_nat (i j : Nat) : (if (j : Int) > (i : Int) then (j : Int) else (i : Int)) = ((max i j : Nat) : Int) := by
  split <;> omega
def sp_level (K : PySem.W.Frag) : Sp := fun vs H Q _ => ∃ (a : Addr) (xs : List V) (t : List (List Int)) (i j : Nat), vs = [.ref a, .int (i : Int), .int (j : Int)] ∧ (SqL K H a xs ∨ SqT K H a xs) ∧ Rows K H xs t ∧ WT t ∧ i < t.length ∧ j < t.length ∧ Q (.int (lev t i j)) H
theorem ok_level {f : Addr} {fd : FuncData} {k : Nat} (F : Fun K "_law_level" "_law_level" s_L_level f fd) (B : Bi mg) : FnOk P w K mg base CX0 (k + 1) f fd ["_law_table_here", "_law_one_here", "_law_other"] (sp_level K) := by
  refine F.ok sc_L_level (fun vs H Q E h => ?_) (fun cdv A outer s H vs Q E hr h => ?_)
  · obtain ⟨a, xs, t, i, j, rfl, _⟩ := h
    rfl
  · obtain ⟨a, xs, t, i, j, rfl, hS, hR, hW, hi, hj, q⟩ := h
    have nd := sc_L_level.nd
    refine ⟨_, pss_cons (ps_par (i := 3) (j := 4) rfl nd rfl rfl (by decide) rfl rfl (pa_cons (pe_callB (call_min2 rfl) (by rfl) B.min (by decide +kernel) (pa_cons (pv 1) (pa_cons (pv 2) pa_nil))) (pa_cons (pe_callB (call_max2 rfl) (by rfl) B.max (by decide +kernel) (pa_cons (pv 1) (pa_cons (pv 2) pa_nil))) pa_nil)) rfl)
      (pss_one (ps_ret (pe_ifExp (pt_cmpR op_eq (pv 3) (pv 4) (nomark _)) pe_int (pe_ix ix_tup (pe_ix (IxR.or ix_list ix_tup) (pv 0) (pv 4) (fun _ _ => rfl)) (pv 3) (fun _ _ => rfl))))), ?_⟩
    refine ⟨.int (i : Int), rfl, .int (j : Int), rfl, _, _, rfl, .int (i : Int), rfl, .int (j : Int), rfl, _, _, rfl, _, _, rfl, ?_⟩
    rw [min_nat, max_nat]
    refine ⟨.int ((min i j : Nat) : Int), rfl, .int ((max i j : Nat) : Int), rfl, rfl, _, rfl, ite2 (fun e => ?_) (fun e => ?_)⟩
    · have e1 : ((min i j : Nat) : Int) = ((max i j : Nat) : Int) := V.int.inj (of_decide_eq_true e)
      have e2 : i = j := by omega
      have e3 : lev t i j = 0 := by unfold lev; rw [if_pos e2]
      rw [e3] at q
      exact q
    · have e2 : i ≠ j := fun z => e (decide_eq_true (by rw [z]; simp))
      have hm : max i j < t.length := by omega
      obtain ⟨v, p, hv, rfl, hp⟩ := hR.get hm
      obtain ⟨l1, l2⟩ := hW.row hm
      have hl : min i j < (t.getD (max i j) []).length := by omega
      have e3 : lev t i j = (t.getD (max i j) []).getD (min i j) 0 := by unfold lev; rw [if_neg e2]
      rw [e3] at q
      refine ⟨.ref a, rfl, .int ((max i j : Nat) : Int), rfl, ?_⟩
      rcases hS with hS | hS
      · exact .inl ⟨a, xs, _, _, rfl, rfl, hS, atI_nat hv, .int ((min i j : Nat) : Int), rfl, p, _, _, _, rfl, rfl, hp, atI_nat (map_at (getD_at hl)), q⟩
      · exact .inr ⟨a, xs, _, _, rfl, rfl, hS, atI_nat hv, .int ((min i j : Nat) : Int), rfl, p, _, _, _, rfl, rfl, hp, atI_nat (map_at (getD_at hl)), q⟩
/-! ### nested tables -/
def sp_nestedU (K : PySem.W.Frag) : Sp := fun vs H Q _ => ∃ (d c r : Addr) (n cnt : Nat) (g : Addr) (gs : List Int), vs = [.ref d, .int (cnt : Int), .ref g] ∧ Dr H d c r n ∧ n ≤ 800000 ∧ 1 ≤ cnt ∧ cnt ≤ 20 ∧ SqL K H g (gs.map V.int) ∧ g ≠ d ∧ g ≠ r ∧ GrOk gs ∧
  ∀ (H' : Hp) (v : V) (t : List (List Int)), TT K H' v t → WT t → Ultra t → t.length = cnt → Dr H' d c r (n + 2 * cnt) → Kp d r H H' → Q v H'
theorem ok_nestedU {f fN fO fL : Addr} {fd fdN fdO fdL : FuncData} (F : Fun K "_law_nested" "_law_nested" s_L_nested f fd) (DN : Df K mg "_law_next" s_L_next fN fdN ["_law_drawn", "_law_many"]) (DO : Df K mg "_law_one" s_L_one fO fdO ["_law_drawn", "_law_items"])
    (DL : Df K mg "_law_level" s_L_level fL fdL ["_law_table_here", "_law_one_here", "_law_other"]) (B : Bi mg) : FnOk P w K mg base CX0 3 f fd ["_law_drawn", "_law_count_here", "_law_grades_here"] (sp_nestedU K) := by
  have GN : FnOk P w K mg base CX0 1 fN fdN ["_law_drawn", "_law_many"] sp_next := ok_next DN.F B
  have GO : FnOk P w K mg base CX0 2 fO fdO ["_law_drawn", "_law_items"] (sp_one K) := ok_one DO.F DN B
  have GL : FnOk P w K mg base CX0 1 fL fdL ["_law_table_here", "_law_one_here", "_law_other"] (sp_level K) := ok_level DL.F B
  refine F.ok sc_L_nested (fun vs H Q E h => ?_) (fun cdv A outer s H vs Q E hr h => ?_)
  · obtain ⟨d, c, r, n, cnt, g, gs, rfl, _⟩ := h
    rfl
  · obtain ⟨d, c, r, n, cnt, g, gs, rfl, hD, hn, hc1, hc2, hg, gd, gr, hG, q⟩ := h
    have nd := sc_L_nested.nd
    have hr1 := hr.mono (show 1 ≤ 2 by decide)
    refine ⟨_, pss_cons (ps_set (i := 3) nd rfl (.inr rfl) (pe_lst (pa_cons (pe_tup pa_nil) pa_nil)))
      (pss_cons (ps_while PassesOwn.never (pt_cmpR op_lt (pe_len B (pv 3)) (pv 1) (nomark _))
        (pss_cons (ps_asg (pe_tup (pa_cons (pe_cl DN GN hr1 (pa_cons (pv 0) (pa_cons (pe_len B (pv 3)) pa_nil))) (pa_cons (pe_cl DO GO hr (pa_cons (pv 0) (pa_cons (pv 2) pa_nil))) pa_nil)))
            (pg_tup rfl (pgs_cons (pg_name (i := 4) nd rfl (.inr rfl)) (pgs_cons (pg_name (i := 5) nd rfl (.inr rfl)) pgs_nil))))
        (pss_cons (ps_setLc (i := 6) (own := [("_law_k", 7)]) (g := gName 7) (tt := tYes) rfl nd rfl rfl (sw_true rfl rfl rfl (by decide +kernel)) (pi_range1 rfl B.range (pa_cons (pe_len B (pv 3)) pa_nil)) (blkOk_by (N := N_L_nested) (sc := defScope s_L_nested) (by decide +kernel))
          (fun _ _ _ _ _ => pg_name (i := 7) nd rfl (.inl rfl)) (fun _ _ _ _ _ => pts_nil)
          (fun _ _ _ _ _ => pe_callB (call_max2 rfl) (by rfl) B.max (by decide +kernel) (pa_cons (pv 5) (pa_cons (pe_cl DL GL hr1 (pa_cons (pv 3) (pa_cons (pv 4) (pa_cons (pv 7) pa_nil)))) pa_nil))))
        (pss_one (ps_expr (pe_bm PySem.F.plainAttrs_list PySem.F.slot_list_append PySem.F.type_list_append mt_append (pv 3) (pa_cons (pe_callTy call_tuple_of (by rfl) B.tuple (by decide +kernel) (pa_cons (pv 6) pa_nil)) pa_nil)))))))
      (pss_one (ps_ret (pe_callTy call_tuple_of (by rfl) B.tuple (by decide +kernel) (pa_cons (pv 3) pa_nil))))), ?_⟩
    -- rows = [()]
    refine ⟨Nat.zero_le _, fun p0 hp0 => ⟨(by show 1 ≤ sizeLine; decide), fun rw hrw => ?_⟩⟩
    have D0 := (hD.new (o := .tup []) hp0).new (o := .lst [.ref p0]) hrw
    have k0 : Kp d r H (upd (upd H p0 (.tup [])) rw (.lst [.ref p0])) := (Kp.new hp0).trans (Kp.new hrw)
    have nrw := (hD.new (o := .tup []) hp0).ne hrw
    have hrwH : H rw = none := Sm.free (Sm.new (o := .tup []) hp0) hrw
    refine ⟨fun m σ Hx => ∃ x4 x5 x6 xs t, σ = [some (.ref d), some (.int (cnt : Int)), some (.ref g), some (.ref rw), x4, x5, x6, none] ∧ Hx rw = some (.lst xs) ∧ Rows K Hx xs t ∧ (WT t ∧ Ultra t) ∧ 0 < t.length ∧ t.length ≤ cnt ∧ m = cnt - t.length ∧ Dr Hx d c r (n + 2 * t.length) ∧ Kp d r H Hx,
      ⟨cnt - 1, none, none, none, [.ref p0], [[]], rfl, upd_same, ?_, ?_, by decide, by show 1 ≤ cnt; exact hc1, rfl, D0.mono (by omega), k0⟩, fun m σ Hx hW => ?_⟩
    · refine (Rows.nil.snoc (v := .ref p0) (ns := []) ⟨p0, rfl, SqT.of ?_⟩)
      rw [upd_ne (ne_of_none upd_same hrw)]
      exact upd_same
    · refine ⟨WT.nil.snoc rfl (fun x hx => by simp at hx), fun i j k hi hj hk => ?_⟩
      obtain rfl : i = 0 := by simp at hi; omega
      obtain rfl : j = 0 := by simp at hj; omega
      obtain rfl : k = 0 := by simp at hk; omega
      rw [lev_self]
      decide
    obtain ⟨x4, x5, x6, xs, t, rfl, hx, hR, ⟨hT, hU⟩, ht0, htc, rfl, hDx, hk⟩ := hW
    have hxl : xs.length = t.length := hR.1
    have nD := hDx
    refine ⟨.ref rw, rfl, rw, xs, rfl, .inl (SqL.of hx), .int (cnt : Int), rfl, _, _, rfl, rfl, _, rfl, ite2 (fun e => ?_) (fun e => ?_)⟩
    · have e1 : (xs.length : Int) < (cnt : Int) := of_decide_eq_true e
      have e2 : t.length < cnt := by omega
      refine ⟨fun σ' H' => ∃ x4 x5 x6 xs t', σ' = [some (.ref d), some (.int (cnt : Int)), some (.ref g), some (.ref rw), x4, x5, x6, none] ∧ H' rw = some (.lst xs) ∧ Rows K H' xs t' ∧ (WT t' ∧ Ultra t') ∧ t'.length = t.length + 1 ∧ Dr H' d c r (n + 2 * (t.length + 1)) ∧ Kp d r H H', fun σ' H' hN => ?_, ?_⟩
      · obtain ⟨y4, y5, y6, ys, t', h1, h2, h3, h4, h5, h6, h7⟩ := hN
        exact ⟨cnt - t'.length, by omega, y4, y5, y6, ys, t', h1, h2, h3, h4, by omega, by omega, rfl, by rw [h5]; exact h6, h7⟩
      -- near, level
      refine ⟨.ref d, rfl, .ref rw, rfl, rw, xs, rfl, .inl (SqL.of hx), d, c, r, _, _, rfl, hDx, by omega, by omega, by omega, fun H1 k1 l1 D1 kp1 => ?_⟩
      refine ⟨.ref d, rfl, .ref g, rfl, d, c, r, _, g, gs.map V.int, rfl, D1, by omega, (hk.trans kp1).sqL gd gr hg, gd, gr, by rw [List.length_map]; exact hG.1, by rw [List.length_map]; have := hG.2.1; omega, fun H2 i2 v2 hv2 D2 kp2 => ?_⟩
      obtain ⟨lv, hlv, rfl⟩ : ∃ lv : Int, LvOk lv ∧ v2 = .int lv := by
        rw [List.getElem?_map] at hv2
        cases e3 : gs[i2]? with
        | none => rw [e3] at hv2; cases hv2
        | some z =>
          rw [e3] at hv2
          exact ⟨z, hG.2.2 z (List.mem_of_getElem? e3), (Option.some.inj hv2).symm⟩
      refine ⟨(by show 2 ≤ sizeLine; decide), fun p3 hp3 => ?_⟩
      refine ⟨p3, _, rfl, SqT.of upd_same, rfl, _, _, rfl, _, _, rfl, rfl, ?_⟩
      have kp12 := kp1.trans kp2
      have hx2 : H2 rw = some (.lst xs) := kp12 rw _ hx nrw.1 nrw.2.2
      have R2 : Rows K H2 xs t := hR.kp hDx kp12
      have D3 := D2.new (o := .tup [.int (k1 : Int), .int lv]) hp3
      have R3 : Rows K (upd H2 p3 (.tup [.int (k1 : Int), .int lv])) xs t := R2.same (Sm.new hp3)
      have hx3 : (upd H2 p3 (.tup [.int (k1 : Int), .int lv])) rw = some (.lst xs) := Sm.new hp3 _ _ hx2
      have k3 : Kp d r H (upd H2 p3 (.tup [.int (k1 : Int), .int lv])) := hk.trans (kp12.trans (Kp.new hp3))
      generalize upd H2 p3 (.tup [.int (k1 : Int), .int lv]) = H3 at D3 R3 hx3 k3
      -- row
      refine ⟨.ref rw, rfl, rw, xs, rfl, .inl (SqL.of hx3), _, rfl, by omega, by omega, fun D hDn => lc_range (n := (xs.length : Int).toNat) (fun i Hy => Hy D = some (.lst (((List.range i).map fun k => max lv (lev t k1 k)).map V.int)) ∧ Sm H3 Hy) ⟨upd_same, Sm.new hDn⟩ (fun i Hy hi hP => ?_) (fun Hy hP => ?_)⟩
      · obtain ⟨h1, h4⟩ := hP
        have hi' : i < t.length := by omega
        refine ⟨rfl, .int lv, rfl, .ref rw, rfl, .int (k1 : Int), rfl, .int (0 + (i : Int)), rfl, rw, xs, t, k1, i, by rw [Int.zero_add]; rfl, .inl (SqL.of (h4 _ _ hx3)), R3.same h4, hT, by omega, hi', ?_⟩
        refine ⟨_, _, rfl, _, h1, by simp; exact small1000 (by omega), ?_, ?_⟩
        · rw [upd_same, range_map_succ, List.map_append, show (if lev t k1 i > lv then lev t k1 i else lv) = max lv (lev t k1 i) by split <;> omega]
          rfl
        · intro b o e
          have hb : b ≠ D := ne_of_none e hDn
          rw [upd_ne hb]
          exact h4 b o e
      · obtain ⟨h1, h4⟩ := hP
        have ex : (xs.length : Int).toNat = t.length := by omega
        rw [ex] at h1
        obtain ⟨ns, ens⟩ : ∃ ns, ns = growR t k1 lv := ⟨_, rfl⟩
        have h1 : Hy D = some (.lst (ns.map V.int)) := by rw [ens]; exact h1
        have hk1 : k1 < t.length := by omega
        have h2' : ns.length = t.length := by rw [ens, growR_len]
        have h3 : ∀ x ∈ ns, LvOk x := by rw [ens]; exact growR_ok hT hk1 hlv
        have hU2 : Ultra (t ++ [ns]) := by rw [ens]; exact grow_ultra hT hU hk1 hlv
        have hx4 := h4 _ _ hx3
        -- rows.append(tuple(row))
        refine ⟨.ref rw, rfl, .inl ⟨rfl, _, SqL.of hx4⟩, .ref D, rfl, D, _, rfl, .inl ⟨SqL.of h1, fun p5 hp5 => ?_⟩⟩
        have hx5 : (upd Hy p5 (.tup (ns.map V.int))) rw = some (.lst xs) := Sm.new hp5 _ _ hx4
        refine ⟨rw, _, _, rfl, rfl, hx5, small1000 (by omega), ?_⟩
        have R5 : Rows K (upd Hy p5 (.tup (ns.map V.int))) (xs ++ [.ref p5]) (t ++ [ns]) := ((R3.same h4).same (Sm.new hp5)).snoc ⟨p5, rfl, SqT.of upd_same⟩
        refine ⟨_, _, _, _, _, rfl, upd_same, R5.upd hx5, ⟨hT.snoc h2' h3, hU2⟩, by rw [List.length_append]; rfl, ?_, ?_⟩
        · exact (((D3.same h4).new hp5).upd nrw.1 nrw.2.1 nrw.2.2).mono (by omega)
        · intro b o e n1 n2
          have hb : b ≠ rw := ne_of_none e hrwH
          rw [upd_ne hb]
          exact Sm.new hp5 _ _ (h4 _ _ (k3 b o e n1 n2))
    · have e1 : ¬ (xs.length : Int) < (cnt : Int) := fun z => e (decide_eq_true z)
      have e2 : t.length = cnt := by omega
      refine ⟨.ref rw, rfl, rw, xs, rfl, .inl ⟨SqL.of hx, fun p hp => ?_⟩⟩
      exact q _ _ t ⟨p, xs, rfl, SqT.of upd_same, hR.same (Sm.new hp)⟩ hT hU e2 ((hDx.new hp).mono (by omega)) (hk.trans (Kp.new hp))
def sp_nested (K : PySem.W.Frag) : Sp := fun vs H Q _ => ∃ (d c r : Addr) (n cnt : Nat) (g : Addr) (gs : List Int), vs = [.ref d, .int (cnt : Int), .ref g] ∧ Dr H d c r n ∧ n ≤ 800000 ∧ 1 ≤ cnt ∧ cnt ≤ 20 ∧ SqL K H g (gs.map V.int) ∧ g ≠ d ∧ g ≠ r ∧ GrOk gs ∧
  ∀ (H' : Hp) (v : V) (t : List (List Int)), TT K H' v t → WT t → t.length = cnt → Dr H' d c r (n + 2 * cnt) → Kp d r H H' → Q v H'
theorem ok_nested {f fN fO fL : Addr} {fd fdN fdO fdL : FuncData} (F : Fun K "_law_nested" "_law_nested" s_L_nested f fd) (DN : Df K mg "_law_next" s_L_next fN fdN ["_law_drawn", "_law_many"]) (DO : Df K mg "_law_one" s_L_one fO fdO ["_law_drawn", "_law_items"])
    (DL : Df K mg "_law_level" s_L_level fL fdL ["_law_table_here", "_law_one_here", "_law_other"]) (B : Bi mg) : FnOk P w K mg base CX0 3 f fd ["_law_drawn", "_law_count_here", "_law_grades_here"] (sp_nested K) := by
  refine (ok_nestedU F DN DO DL B).imp (fun vs H Q E h => ?_)
  obtain ⟨d, c, r, n, cnt, g, gs, rfl, hD, hn, hc1, hc2, hg, gd, gr, hG, q⟩ := h
  exact ⟨d, c, r, n, cnt, g, gs, rfl, hD, hn, hc1, hc2, hg, gd, gr, hG, fun H' v t hT hW _ hl D kp => q H' v t hT hW hl D kp⟩
end
section
variable {P : Program} {w : World} {K : PySem.W.Frag} {mg : Str → Option Value} {base : Heap}
/-! ### rows of levels -/
def sp_levels (K : PySem.W.Frag) : Sp := fun vs H Q _ => ∃ (d c r : Addr) (n m : Nat) (g : Addr) (gs : List Int), vs = [.ref d, .int (m : Int), .ref g] ∧ Dr H d c r n ∧ n ≤ 800000 ∧ m ≤ 20 ∧ SqL K H g (gs.map V.int) ∧ g ≠ d ∧ g ≠ r ∧ GrOk gs ∧
  ∀ (H' : Hp) (v : V) (ns : List Int), IT K H' v ns → ns.length = m → (∀ x ∈ ns, LvOk x) → Dr H' d c r (n + m) → Kp d r H H' → Q v H'
theorem gr_at {gs : List Int} {i : Nat} {v : V} (h : ∀ x ∈ gs, LvOk x) (e : (gs.map V.int)[i]? = some v) : ∃ lv : Int, LvOk lv ∧ v = .int lv := by
  rw [List.getElem?_map] at e
  cases e3 : gs[i]? with
  | none => rw [e3] at e; cases e
  | some z =>
    rw [e3] at e
    exact ⟨z, h z (List.mem_of_getElem? e3), (Option.some.inj e).symm⟩
theorem ok_levels {f fN fO : Addr} {fd fdN fdO : FuncData} (F : Fun K "_law_levels" "_law_levels" s_L_levels f fd) (DN : Df K mg "_law_next" s_L_next fN fdN ["_law_drawn", "_law_many"]) (DO : Df K mg "_law_one" s_L_one fO fdO ["_law_drawn", "_law_items"]) (B : Bi mg) :
    FnOk P w K mg base CX0 3 f fd ["_law_drawn", "_law_many", "_law_grades_here"] (sp_levels K) := by
  have GO : FnOk P w K mg base CX0 2 fO fdO ["_law_drawn", "_law_items"] (sp_one K) := ok_one DO.F DN B
  refine F.ok sc_L_levels (fun vs H Q E h => ?_) (fun cdv A outer s H vs Q E hr h => ?_)
  · obtain ⟨d, c, r, n, m, g, gs, rfl, _⟩ := h
    rfl
  · obtain ⟨d, c, r, n, m, g, gs, rfl, hD, hn, hm, hg, gd, gr, hG, q⟩ := h
    have nd := sc_L_levels.nd
    refine ⟨_, pss_one (ps_ret (pe_callTy call_tuple_of (by rfl) B.tuple (by decide +kernel) (pa_cons (pe_lc (own := [("_law_k", 3)]) (g := gName 3) (tt := tYes) rfl nd (pi_range1 rfl B.range (pa_cons (pv 1) pa_nil)) (blkOk_by (N := N_L_levels) (sc := defScope s_L_levels) (by decide +kernel))
      (fun _ _ _ _ _ => pg_name (i := 3) nd rfl (.inl rfl)) (fun _ _ _ _ _ => pts_nil) (fun _ _ _ _ _ => pe_cl DO GO hr (pa_cons (pv 0) (pa_cons (pv 2) pa_nil)))) pa_nil))), ?_⟩
    refine ⟨.int (m : Int), rfl, _, rfl, by omega, by omega, fun D hDn => lc_range (n := (m : Int).toNat) (fun i Hx => ∃ ns : List Int, Hx D = some (.lst (ns.map V.int)) ∧ ns.length = i ∧ (∀ x ∈ ns, LvOk x) ∧ Dr Hx d c r (n + i) ∧ Kp d r H Hx) ⟨[], upd_same, rfl, fun x hx => by simp at hx, hD.new hDn, Kp.new hDn⟩ (fun i Hx hi hP => ?_) (fun Hx hP => ?_)⟩
    · obtain ⟨ns, h1, h2, h3, h4, h5⟩ := hP
      have nD := hD.ne hDn
      refine ⟨rfl, .ref d, rfl, .ref g, rfl, d, c, r, n + i, g, gs.map V.int, rfl, h4, by omega, h5.sqL gd gr hg, gd, gr, by rw [List.length_map]; exact hG.1, by rw [List.length_map]; have := hG.2.1; omega, fun H2 i2 v2 hv2 D2 kp2 => ?_⟩
      obtain ⟨lv, hlv, rfl⟩ := gr_at hG.2.2 hv2
      have hD2 : H2 D = some (.lst (ns.map V.int)) := kp2 D _ h1 nD.1 nD.2.2
      refine ⟨ns.map V.int, hD2, by rw [List.length_map]; exact small1000 (by omega), ns ++ [lv], ?_, by rw [List.length_append, h2]; rfl, ?_, D2.upd nD.1 nD.2.1 nD.2.2, ?_⟩
      · rw [upd_same, List.map_append]; rfl
      · intro x hx
        rcases List.mem_append.mp hx with hx | hx
        · exact h3 x hx
        · rw [List.mem_singleton.mp hx]; exact hlv
      · intro b o e n1 n2
        rw [upd_ne (ne_of_none e hDn)]
        exact kp2 b o (h5 b o e n1 n2) n1 n2
    · obtain ⟨ns, h1, h2, h3, h4, h5⟩ := hP
      have e2 : (m : Int).toNat = m := by omega
      rw [e2] at h2 h4
      refine ⟨D, _, rfl, .inl ⟨SqL.of h1, fun p hp => ?_⟩⟩
      exact q _ _ ns ⟨p, rfl, SqT.of upd_same⟩ h2 h3 (h4.new hp) (h5.trans (Kp.new hp))
def sp_any (K : PySem.W.Frag) : Sp := fun vs H Q _ => ∃ (d c r : Addr) (n m : Nat) (wd : Int), vs = [.ref d, .int (m : Int), .int wd] ∧ Dr H d c r n ∧ n ≤ 800000 ∧ m ≤ 20 ∧ 0 < wd ∧ wd ≤ 1000000000000 ∧
  ∀ (H' : Hp) (v : V) (ns : List Int), IT K H' v ns → ns.length = m → (∀ x ∈ ns, LvOk x) → Dr H' d c r (n + m) → Kp d r H H' → Q v H'
theorem ok_any {f fN : Addr} {fd fdN : FuncData} (F : Fun K "_law_any" "_law_any" s_L_any f fd) (DN : Df K mg "_law_next" s_L_next fN fdN ["_law_drawn", "_law_many"]) (B : Bi mg) :
    FnOk P w K mg base CX0 3 f fd ["_law_drawn", "_law_many", "_law_wide"] (sp_any K) := by
  have GN : FnOk P w K mg base CX0 2 fN fdN ["_law_drawn", "_law_many"] sp_next := ok_next DN.F B
  refine F.ok sc_L_any (fun vs H Q E h => ?_) (fun cdv A outer s H vs Q E hr h => ?_)
  · obtain ⟨d, c, r, n, m, wd, rfl, _⟩ := h
    rfl
  · obtain ⟨d, c, r, n, m, wd, rfl, hD, hn, hm, w0, w1, q⟩ := h
    have nd := sc_L_any.nd
    refine ⟨_, pss_one (ps_ret (pe_callTy call_tuple_of (by rfl) B.tuple (by decide +kernel) (pa_cons (pe_lc (own := [("_law_k", 3)]) (g := gName 3) (tt := tYes) rfl nd (pi_range1 rfl B.range (pa_cons (pv 1) pa_nil)) (blkOk_by (N := N_L_any) (sc := defScope s_L_any) (by decide +kernel))
      (fun _ _ _ _ _ => pg_name (i := 3) nd rfl (.inl rfl)) (fun _ _ _ _ _ => pts_nil) (fun _ _ _ _ _ => pe_op op_add pe_int (pe_cl DN GN hr (pa_cons (pv 0) (pa_cons (pv 2) pa_nil))))) pa_nil))), ?_⟩
    refine ⟨.int (m : Int), rfl, _, rfl, by omega, by omega, fun D hDn => lc_range (n := (m : Int).toNat) (fun i Hx => ∃ ns : List Int, Hx D = some (.lst (ns.map V.int)) ∧ ns.length = i ∧ (∀ x ∈ ns, LvOk x) ∧ Dr Hx d c r (n + i) ∧ Kp d r H Hx) ⟨[], upd_same, rfl, fun x hx => by simp at hx, hD.new hDn, Kp.new hDn⟩ (fun i Hx hi hP => ?_) (fun Hx hP => ?_)⟩
    · obtain ⟨ns, h1, h2, h3, h4, h5⟩ := hP
      have nD := hD.ne hDn
      refine ⟨rfl, .ref d, rfl, .int wd, rfl, d, c, r, n + i, wd, rfl, h4, by omega, w0, by omega, fun H2 k2 l2 D2 kp2 => ?_⟩
      have hD2 : H2 D = some (.lst (ns.map V.int)) := kp2 D _ h1 nD.1 nD.2.2
      refine ⟨_, _, rfl, rfl, ns.map V.int, hD2, by rw [List.length_map]; exact small1000 (by omega), ns ++ [1 + (k2 : Int)], ?_, by rw [List.length_append, h2]; rfl, ?_, D2.upd nD.1 nD.2.1 nD.2.2, ?_⟩
      · rw [upd_same, List.map_append]; rfl
      · intro x hx
        rcases List.mem_append.mp hx with hx | hx
        · exact h3 x hx
        · rw [List.mem_singleton.mp hx]; exact ⟨by omega, by omega⟩
      · intro b o e n1 n2
        rw [upd_ne (ne_of_none e hDn)]
        exact kp2 b o (h5 b o e n1 n2) n1 n2
    · obtain ⟨ns, h1, h2, h3, h4, h5⟩ := hP
      have e2 : (m : Int).toNat = m := by omega
      rw [e2] at h2 h4
      refine ⟨D, _, rfl, .inl ⟨SqL.of h1, fun p hp => ?_⟩⟩
      exact q _ _ ns ⟨p, rfl, SqT.of upd_same⟩ h2 h3 (h4.new hp) (h5.trans (Kp.new hp))
/-! ### levels raised -/
def sp_raised (K : PySem.W.Frag) : Sp := fun vs H Q _ => ∃ (d c r : Addr) (n : Nat) (tv : V) (t : List (List Int)) (g : Addr) (gs : List Int), vs = [.ref d, tv, .ref g] ∧ Dr H d c r n ∧ n ≤ 800000 ∧ TT K H tv t ∧ WT t ∧ t.length ≤ 20 ∧ H g = some (.lst (gs.map V.int)) ∧ g ≠ d ∧ g ≠ r ∧ GrOk gs ∧
  ∀ (H' : Hp) (v : V) (t' : List (List Int)), TT K H' v t' → WT t' → t'.length = t.length → Dr H' d c r (n + 400) → Kp d r H H' → Q v H'
theorem ok_raised {f fN fO : Addr} {fd fdN fdO : FuncData} (F : Fun K "_law_raised" "_law_raised" s_L_raised f fd) (DN : Df K mg "_law_next" s_L_next fN fdN ["_law_drawn", "_law_many"]) (DO : Df K mg "_law_one" s_L_one fO fdO ["_law_drawn", "_law_items"]) (B : Bi mg) :
    FnOk P w K mg base CX0 3 f fd ["_law_drawn", "_law_table_here", "_law_grades_here"] (sp_raised K) := by
  have GO : FnOk P w K mg base CX0 2 fO fdO ["_law_drawn", "_law_items"] (sp_one K) := ok_one DO.F DN B
  refine F.ok sc_L_raised (fun vs H Q E h => ?_) (fun cdv A outer s H vs Q E hr h => ?_)
  · obtain ⟨d, c, r, n, tv, t, g, gs, rfl, _⟩ := h
    rfl
  · obtain ⟨d, c, r, n, tv, t, g, gs, rfl, hD, hn, ⟨tp, rs, rfl, htp, hR⟩, hT, h20, hg, gd, gr, hG, q⟩ := h
    have nd := sc_L_raised.nd
    refine ⟨_, pss_cons (ps_set (i := 3) nd rfl (.inl rfl) (pe_lst pa_nil))
      (pss_cons (ps_for PassesOwn.never rfl (pi_tup (pv 1)) (pg_name (i := 4) nd rfl (.inl rfl))
        (pss_one (ps_expr (pe_bm PySem.F.plainAttrs_list PySem.F.slot_list_append PySem.F.type_list_append mt_append (pv 3) (pa_cons (pe_callTy call_tuple_of (by rfl) B.tuple (by decide +kernel) (pa_cons
          (pe_lc (own := [("_law_level_here", 5)]) (g := gName 5) (tt := tYes) rfl nd (pi_tup (pv 4)) (blkOk_by (N := N_L_raised) (sc := defScope s_L_raised) (by decide +kernel))
            (fun _ _ _ _ _ => pg_name (i := 5) nd rfl (.inl rfl)) (fun _ _ _ _ _ => pts_nil) (fun _ _ _ _ _ => pe_callB (call_max2 rfl) (by rfl) B.max (by decide +kernel) (pa_cons (pv 5) (pa_cons (pe_cl DO GO hr (pa_cons (pv 0) (pa_cons (pe_op op_cat (pv 2) (pe_lst (pa_cons pe_int (pa_cons pe_int pa_nil)))) pa_nil))) pa_nil)))) pa_nil)) pa_nil)))))
      (pss_one (ps_ret (pe_callTy call_tuple_of (by rfl) B.tuple (by decide +kernel) (pa_cons (pv 3) pa_nil))))), ?_⟩
    refine ⟨Nat.zero_le _, fun o ho => ?_⟩
    have no := hD.ne ho
    refine ⟨.ref tp, rfl, tp, rfl, ⟨_, (Sm.new ho).sqT htp⟩, for_tup (xs := rs) (fun i σ Hx => ∃ x4 xs t', σ = [some (.ref d), some (.ref tp), some (.ref g), some (.ref o), x4, none] ∧ Hx o = some (.lst xs) ∧ Rows K Hx xs t' ∧ WT t' ∧ t'.length = i ∧ Dr Hx d c r (n + 20 * i) ∧ Kp d r H Hx)
      ⟨none, [], [], rfl, upd_same, Rows.nil, WT.nil, rfl, hD.new ho, Kp.new ho⟩ (fun i σ Hx hi hP => ?_) (fun i v σ Hx hv hP => ?_) (fun σ Hx hP => ?_)⟩
    · obtain ⟨x4, xs, t', _, _, _, _, _, _, hk⟩ := hP
      exact hD.kpT hk htp
    · obtain ⟨x4, xs, t', rfl, hx, hR', hT', hl, hDx, hk⟩ := hP
      have hir : i < rs.length := (List.getElem?_eq_some_iff.mp hv).1
      have hit : i < t.length := by rw [← hR.1]; exact hir
      obtain ⟨v', p, hv', rfl, hp⟩ := hR.get hit
      obtain rfl : v = .ref p := Option.some.inj (hv.symm.trans hv')
      obtain ⟨l1, l2⟩ := hT.row hit
      have hpx := hD.kpT hk hp
      refine ⟨.ref o, rfl, .inl ⟨rfl, _, SqL.of hx⟩, .ref p, rfl, p, rfl, ⟨_, hpx⟩, fun D hDn => lc_tup (xs := (t.getD i []).map V.int) (fun j Hy => ∃ ns : List Int, Hy D = some (.lst (ns.map V.int)) ∧ ns.length = j ∧ (∀ x ∈ ns, LvOk x) ∧ Dr Hy d c r (n + 20 * i + j) ∧ Kp d r Hx Hy) ⟨[], upd_same, rfl, fun x hx => by simp at hx, hDx.new hDn, Kp.new hDn⟩ (fun j Hy hj hP => ?_) (fun j y Hy hy hP => ?_) (fun Hy hP => ?_)⟩
      · obtain ⟨ns, _, _, _, _, h5⟩ := hP
        exact hDx.kpT h5 hpx
      · obtain ⟨ns, h1, h2, h3, h4, h5⟩ := hP
        obtain ⟨y0, hy0, rfl⟩ := gr_at l2 hy
        have hj : j < i := by
          have := (List.getElem?_eq_some_iff.mp hy).1
          rw [List.length_map] at this
          omega
        have nD := hDx.ne hDn
        have hgy : Hy g = some (.lst (gs.map V.int)) := h5 g _ (hk g _ hg gd gr) gd gr
        refine ⟨rfl, .int y0, rfl, .ref d, rfl, .ref g, rfl, (by show 2 ≤ sizeLine; decide), fun p1 hp1 => ?_⟩
        have hg1 : (upd Hy p1 (.lst [.int 1, .int 1])) g = some (.lst (gs.map V.int)) := Sm.new hp1 _ _ hgy
        refine ⟨g, p1, _, _, rfl, rfl, hg1, upd_same, by rw [List.length_map]; have := hG.2.1; exact Nat.le_of_lt (small1000 (show gs.length + 2 ≤ 1000 by omega)), fun p2 hp2 => ?_⟩
        have Dy2 := (h4.new (o := .lst [.int 1, .int 1]) hp1).new (o := .lst (gs.map V.int ++ [.int 1, .int 1])) hp2
        have np2 := (h4.new (o := .lst [.int 1, .int 1]) hp1).ne hp2
        refine ⟨d, c, r, _, p2, _, rfl, Dy2, by omega, SqL.of upd_same, np2.1, np2.2.2, by rw [List.length_append]; show 0 < _ + 2; omega, by rw [List.length_append, List.length_map]; have := hG.2.1; show _ + 2 ≤ 1000; omega, fun H3 i3 v3 hv3 D3 kp3 => ?_⟩
        obtain ⟨lv, hlv, rfl⟩ : ∃ lv : Int, LvOk lv ∧ v3 = .int lv := by
          refine gr_at (gs := gs ++ [1, 1]) (fun x hx => ?_) (by rw [List.map_append]; exact hv3)
          rcases List.mem_append.mp hx with hx | hx
          · exact hG.2.2 x hx
          · rcases List.mem_cons.mp hx with hx | hx
            · rw [hx]; exact ⟨by decide, by decide⟩
            · rw [List.mem_singleton.mp hx]; exact ⟨by decide, by decide⟩
        have kq : Kp d r Hy H3 := ((Kp.new hp1).trans (Kp.new hp2)).trans kp3
        have hD3 : H3 D = some (.lst (ns.map V.int)) := kq D _ h1 nD.1 nD.2.2
        refine ⟨_, _, rfl, ns.map V.int, hD3, by rw [List.length_map]; exact small1000 (by omega), ns ++ [if lv > y0 then lv else y0], ?_, by rw [List.length_append, h2]; rfl, ?_, (D3.upd nD.1 nD.2.1 nD.2.2), ?_⟩
        · rw [upd_same, List.map_append]; rfl
        · intro x hx
          rcases List.mem_append.mp hx with hx | hx
          · exact h3 x hx
          · rw [List.mem_singleton.mp hx]
            split
            · exact hlv
            · exact hy0
        · intro b u e n1 n2
          rw [upd_ne (ne_of_none e hDn)]
          exact kq b u (h5 b u e n1 n2) n1 n2
      · obtain ⟨ns, h1, h2, h3, h4, h5⟩ := hP
        rw [List.length_map, l1] at h2 h4
        have hxy : Hy o = some (.lst xs) := h5 o _ hx no.1 no.2.2
        refine ⟨D, _, rfl, .inl ⟨SqL.of h1, fun p5 hp5 => ?_⟩⟩
        have hx5 : (upd Hy p5 (.tup (ns.map V.int))) o = some (.lst xs) := Sm.new hp5 _ _ hxy
        have hxl : xs.length = i := by rw [hR'.1, hl]
        refine ⟨o, _, _, rfl, rfl, hx5, small1000 (by omega), ?_⟩
        have R5 : Rows K (upd Hy p5 (.tup (ns.map V.int))) (xs ++ [.ref p5]) (t' ++ [ns]) := ((hR'.kp hDx h5).same (Sm.new hp5)).snoc ⟨p5, rfl, SqT.of upd_same⟩
        refine ⟨_, _, _, rfl, upd_same, R5.upd hx5, hT'.snoc (by omega) h3, by rw [List.length_append, hl]; rfl, ((h4.new hp5).upd no.1 no.2.1 no.2.2).mono (by omega), ?_⟩
        intro b u e n1 n2
        rw [upd_ne (ne_of_none e ho)]
        exact Sm.new hp5 _ _ (h5 b u (hk b u e n1 n2) n1 n2)
    · obtain ⟨x4, xs, t', rfl, hx, hR', hT', hl, hDx, hk⟩ := hP
      refine ⟨.ref o, rfl, o, xs, rfl, .inl ⟨SqL.of hx, fun p hp => ?_⟩⟩
      have hrl := hR.1
      exact q _ _ t' ⟨p, xs, rfl, SqT.of upd_same, hR'.same (Sm.new hp)⟩ hT' (by omega) ((hDx.new hp).mono (by omega)) (hk.trans (Kp.new hp))
end
section
variable {P : Program} {w : World} {K : PySem.W.Frag} {mg : Str → Option Value} {base : Heap}
/-! ### tables -/
def sp_table (K : PySem.W.Frag) : Sp := fun vs H Q _ => ∃ (d c r : Addr) (n cnt : Nat), vs = [.ref d, .int (cnt : Int)] ∧ Dr H d c r n ∧ n ≤ 700000 ∧ 1 ≤ cnt ∧ cnt ≤ 20 ∧
  ∀ (H' : Hp) (v : V) (t : List (List Int)), TT K H' v t → WT t → t.length = cnt → Dr H' d c r (n + 500) → Kp d r H H' → Q v H'
structure DrawDefs (K : PySem.W.Frag) (mg : Str → Option Value) : Prop where
  B : Bi mg
  next : ∃ f fd, Df K mg "_law_next" s_L_next f fd ["_law_drawn", "_law_many"]
  one : ∃ f fd, Df K mg "_law_one" s_L_one f fd ["_law_drawn", "_law_items"]
  count : ∃ f fd, Df K mg "_law_count" s_L_count f fd ["_law_drawn", "_law_most"]
  grades : ∃ f fd, Df K mg "_law_grades" s_L_grades f fd ["_law_drawn"]
  level : ∃ f fd, Df K mg "_law_level" s_L_level f fd ["_law_table_here", "_law_one_here", "_law_other"]
  nested : ∃ f fd, Df K mg "_law_nested" s_L_nested f fd ["_law_drawn", "_law_count_here", "_law_grades_here"]
  raised : ∃ f fd, Df K mg "_law_raised" s_L_raised f fd ["_law_drawn", "_law_table_here", "_law_grades_here"]
  levels : ∃ f fd, Df K mg "_law_levels" s_L_levels f fd ["_law_drawn", "_law_many", "_law_grades_here"]
  any : ∃ f fd, Df K mg "_law_any" s_L_any f fd ["_law_drawn", "_law_many", "_law_wide"]
theorem ok_table {f : Addr} {fd : FuncData} (F : Fun K "_law_table" "_law_table" s_L_table f fd) (T : DrawDefs K mg) : FnOk P w K mg base CX0 4 f fd ["_law_drawn", "_law_count_here"] (sp_table K) := by
  have B := T.B
  obtain ⟨fN, fdN, DN⟩ := T.next
  obtain ⟨fO, fdO, DO⟩ := T.one
  obtain ⟨fG, fdG, DG⟩ := T.grades
  obtain ⟨fL, fdL, DL⟩ := T.level
  obtain ⟨fE, fdE, DE⟩ := T.nested
  obtain ⟨fR, fdR, DR⟩ := T.raised
  obtain ⟨fS, fdS, DS⟩ := T.levels
  obtain ⟨fA, fdA, DA⟩ := T.any
  have GN : FnOk P w K mg base CX0 3 fN fdN ["_law_drawn", "_law_many"] sp_next := ok_next DN.F B
  have GO : FnOk P w K mg base CX0 3 fO fdO ["_law_drawn", "_law_items"] (sp_one K) := (ok_one DO.F DN B).mono (by decide)
  have GG : FnOk P w K mg base CX0 3 fG fdG ["_law_drawn"] sp_grades := (ok_grades DG.F DN B).mono (by decide)
  have GE : FnOk P w K mg base CX0 3 fE fdE ["_law_drawn", "_law_count_here", "_law_grades_here"] (sp_nested K) := ok_nested DE.F DN DO DL B
  have GR : FnOk P w K mg base CX0 3 fR fdR ["_law_drawn", "_law_table_here", "_law_grades_here"] (sp_raised K) := ok_raised DR.F DN DO B
  have GS : FnOk P w K mg base CX0 3 fS fdS ["_law_drawn", "_law_many", "_law_grades_here"] (sp_levels K) := ok_levels DS.F DN DO B
  have GA : FnOk P w K mg base CX0 3 fA fdA ["_law_drawn", "_law_many", "_law_wide"] (sp_any K) := ok_any DA.F DN B
  refine F.ok sc_L_table (fun vs H Q E h => ?_) (fun cdv A outer s H vs Q E hr h => ?_)
  · obtain ⟨d, c, r, n, cnt, rfl, _⟩ := h
    rfl
  · obtain ⟨d, c, r, n, cnt, rfl, hD, hn, c1, c2, q⟩ := h
    have nd := sc_L_table.nd
    refine ⟨_, pss_cons (ps_asg (pe_tup (pa_cons (pe_cl DG GG hr (pa_cons (pv 0) pa_nil)) (pa_cons (pe_cl DN GN hr (pa_cons (pv 0) (pa_cons pe_int pa_nil))) pa_nil)))
            (pg_tup rfl (pgs_cons (pg_name (i := 2) nd rfl (.inr rfl)) (pgs_cons (pg_name (i := 3) nd rfl (.inl rfl)) pgs_nil))))
      (pss_cons (ps_if (pt_cmpR op_eq (pv 3) pe_int (nomark _)) (pss_one (ps_ret (pe_callTy call_tuple_of (by rfl) B.tuple (by decide +kernel) (pa_cons
          (pe_lc (own := [("_law_one_here", 4)]) (g := gName 4) (tt := tYes) rfl nd (pi_range1 rfl B.range (pa_cons (pv 1) pa_nil)) (blkOk_by (N := N_L_table) (sc := defScope s_L_table) (by decide +kernel))
            (fun _ _ _ _ _ => pg_name (i := 4) nd rfl (.inl rfl)) (fun _ _ _ _ _ => pts_nil) (fun _ _ _ _ _ => pe_cl DS GS hr (pa_cons (pv 0) (pa_cons (pv 4) (pa_cons (pv 2) pa_nil))))) pa_nil)))) pss_nil)
      (pss_cons (ps_if (pt_cmpR op_eq (pv 3) pe_int (nomark _)) (pss_cons (ps_set (i := 5) nd rfl (.inr rfl) (pe_cl DO GO hr (pa_cons (pv 0) (pa_cons (pe_lst (pa_cons pe_int (pa_cons pe_int (pa_cons (pe_op op_pow pe_int pe_int) pa_nil)))) pa_nil))))
          (pss_one (ps_ret (pe_callTy call_tuple_of (by rfl) B.tuple (by decide +kernel) (pa_cons
          (pe_lc (own := [("_law_one_here", 4)]) (g := gName 4) (tt := tYes) rfl nd (pi_range1 rfl B.range (pa_cons (pv 1) pa_nil)) (blkOk_by (N := N_L_table) (sc := defScope s_L_table) (by decide +kernel))
            (fun _ _ _ _ _ => pg_name (i := 4) nd rfl (.inl rfl)) (fun _ _ _ _ _ => pts_nil) (fun _ _ _ _ _ => pe_cl DA GA hr (pa_cons (pv 0) (pa_cons (pv 4) (pa_cons (pv 5) pa_nil))))) pa_nil))))) pss_nil)
      (pss_cons (ps_set (i := 6) nd rfl (.inl rfl) (pe_cl DE GE hr (pa_cons (pv 0) (pa_cons (pv 1) (pa_cons (pv 2) pa_nil)))))
      (pss_cons (ps_if (PW.pt (pw_or (pt_cmpR op_eq (pv 3) pe_int (nomark _)) (pw_or1 (pt_cmpR op_eq (pv 1) pe_int (nomark _))))) (pss_one (ps_ret (pv 6))) pss_nil)
      (pss_cons (ps_if (pt_cmpR op_eq (pv 3) pe_int (nomark _)) (pss_one (ps_ret (pe_cl DR GR hr (pa_cons (pv 0) (pa_cons (pv 6) (pa_cons (pv 2) pa_nil)))))) pss_nil)
      (pss_cons (ps_set (i := 4) nd rfl (.inl rfl) (pe_op op_add pe_int (pe_cl DN GN hr (pa_cons (pv 0) (pa_cons (pe_op op_sub (pv 1) pe_int) pa_nil)))))
      (pss_cons (ps_par (i := 7) (j := 8) rfl nd rfl rfl (by decide) rfl rfl (pa_cons (pe_cl DN GN hr (pa_cons (pv 0) (pa_cons (pv 4) pa_nil))) (pa_cons (pe_cl DO GO hr (pa_cons (pv 0) (pa_cons (pe_op op_cat (pv 2) (pe_lst (pa_cons pe_int (pa_cons (pe_op op_pow pe_int pe_int) pa_nil)))) pa_nil))) pa_nil)) rfl)
      (pss_cons (ps_set (i := 9) nd rfl (.inl rfl) (pe_op op_catW (pe_op op_catW (pe_slice sl_tupW (pe_ix ix_tup (pv 6) (pv 4) (fun _ _ => rfl)) po_none (po_some (pv 7))) (pe_tup (pa_cons (pv 8) pa_nil))) (pe_slice sl_tupW (pe_ix ix_tup (pv 6) (pv 4) (fun _ _ => rfl)) (po_some (pe_op op_add (pv 7) pe_int)) po_none)))
      (pss_one (ps_ret (pe_op op_catW (pe_op op_catW (pe_slice sl_tupW (pv 6) po_none (po_some (pv 4))) (pe_tup (pa_cons (pv 9) pa_nil))) (pe_slice sl_tupW (pv 6) (po_some (pe_op op_add (pv 4) pe_int)) po_none)))))))))))), ?_⟩
    -- grades, way
    refine ⟨.ref d, rfl, d, c, r, n, rfl, hD, by omega, fun H1 g gs hg0 hg1 hG D1 kp1 gd gc gr => ?_⟩
    refine ⟨.ref d, rfl, d, c, r, _, 5, rfl, D1, by omega, by decide, by decide, fun H2 way lw D2 kp2 => ?_⟩
    refine ⟨(by show 2 ≤ sizeLine; decide), fun p3 hp3 => ?_⟩
    refine ⟨p3, _, rfl, SqT.of upd_same, rfl, _, _, rfl, _, _, rfl, rfl, ?_⟩
    have hg2 : H2 g = some (.lst (gs.map V.int)) := kp2 g _ hg1 gd gr
    have hg3 : (upd H2 p3 (.tup [.ref g, .int (way : Int)])) g = some (.lst (gs.map V.int)) := Sm.new hp3 _ _ hg2
    have D3 := D2.new (o := .tup [.ref g, .int (way : Int)]) hp3
    have k3 : Kp d r H (upd H2 p3 (.tup [.ref g, .int (way : Int)])) := (kp1.trans kp2).trans (Kp.new hp3)
    generalize upd H2 p3 (.tup [.ref g, .int (way : Int)]) = H3 at D3 hg3 k3
    -- way 0
    refine ⟨.int (way : Int), rfl, rfl, _, rfl, ite2 (fun e => ?_) (fun e0 => ?_)⟩
    · refine ⟨.int (cnt : Int), rfl, _, rfl, by omega, by omega, fun D hDn => lc_range (n := (cnt : Int).toNat) (fun i Hx => ∃ xs t, Hx D = some (.lst xs) ∧ Rows K Hx xs t ∧ WT t ∧ t.length = i ∧ Dr Hx d c r (n + 10 + 20 * i) ∧ Kp d r H3 Hx) ⟨[], [], upd_same, Rows.nil, WT.nil, rfl, D3.new hDn, Kp.new hDn⟩ (fun i Hx hi hP => ?_) (fun Hx hP => ?_)⟩
      · obtain ⟨xs, t, h1, h2, h3, h4, h5, h6⟩ := hP
        have nD := D3.ne hDn
        refine ⟨rfl, .ref d, rfl, .int (0 + (i : Int)), rfl, .ref g, rfl, d, c, r, _, i, g, gs, by rw [Int.zero_add]; rfl, h5, by omega, by omega, SqL.of (h6 g _ hg3 gd gr), gd, gr, hG, fun H4 v ns hv hl hL D4 kp4 => ?_⟩
        have hD4 : H4 D = some (.lst xs) := kp4 D _ h1 nD.1 nD.2.2
        have hxl := h2.1
        refine ⟨xs, hD4, small1000 (by omega), xs ++ [v], t ++ [ns], upd_same, ((h2.kp h5 kp4).snoc hv).upd hD4, h3.snoc (by omega) hL, by rw [List.length_append, h4]; rfl, (D4.upd nD.1 nD.2.1 nD.2.2).mono (by omega), ?_⟩
        intro b o e n1 n2
        rw [upd_ne (ne_of_none e hDn)]
        exact kp4 b o (h6 b o e n1 n2) n1 n2
      · obtain ⟨xs, t, h1, h2, h3, h4, h5, h6⟩ := hP
        refine ⟨D, _, rfl, .inl ⟨SqL.of h1, fun p hp => ?_⟩⟩
        exact q _ _ t ⟨p, xs, rfl, SqT.of upd_same, h2.same (Sm.new hp)⟩ h3 (by omega) ((h5.new hp).mono (by omega)) (k3.trans (h6.trans (Kp.new hp)))
    -- way 1
    refine ⟨.int (way : Int), rfl, rfl, _, rfl, ite2 (fun e => ?_) (fun e1 => ?_)⟩
    · refine ⟨.ref d, rfl, _, _, rfl, rfl, ⟨by decide, by decide, by decide⟩, (by show 3 ≤ sizeLine; decide), fun p4 hp4 => ?_⟩
      have np4 := D3.ne hp4
      have D4 := D3.new (o := .lst [.int 3, .int 20, .int (10 ^ (12 : Int).toNat)]) hp4
      refine ⟨d, c, r, _, p4, _, rfl, D4, by omega, SqL.of upd_same, np4.1, np4.2.2, by decide, by decide, fun H5 i5 v5 hv5 D5 kp5 => ?_⟩
      obtain ⟨wd, rfl, w0, w1⟩ : ∃ wd : Int, v5 = .int wd ∧ 0 < wd ∧ wd ≤ 1000000000000 := by
        match i5, hv5 with
        | 0, h => exact ⟨3, (Option.some.inj h).symm, by decide, by decide⟩
        | 1, h => exact ⟨20, (Option.some.inj h).symm, by decide, by decide⟩
        | 2, h => exact ⟨10 ^ (12 : Int).toNat, (Option.some.inj h).symm, by decide, by decide⟩
        | k + 3, h => simp at h
      have k5 : Kp d r H H5 := k3.trans ((Kp.new hp4).trans kp5)
      refine ⟨.int (cnt : Int), rfl, _, rfl, by omega, by omega, fun D hDn => lc_range (n := (cnt : Int).toNat) (fun i Hx => ∃ xs t, Hx D = some (.lst xs) ∧ Rows K Hx xs t ∧ WT t ∧ t.length = i ∧ Dr Hx d c r (n + 11 + 20 * i) ∧ Kp d r H5 Hx) ⟨[], [], upd_same, Rows.nil, WT.nil, rfl, D5.new hDn, Kp.new hDn⟩ (fun i Hx hi hP => ?_) (fun Hx hP => ?_)⟩
      · obtain ⟨xs, t, h1, h2, h3, h4, h5, h6⟩ := hP
        have nD := D5.ne hDn
        refine ⟨rfl, .ref d, rfl, .int (0 + (i : Int)), rfl, .int wd, rfl, d, c, r, _, i, wd, by rw [Int.zero_add]; rfl, h5, by omega, by omega, w0, w1, fun H4 v ns hv hl hL D4 kp4 => ?_⟩
        have hD4 : H4 D = some (.lst xs) := kp4 D _ h1 nD.1 nD.2.2
        have hxl := h2.1
        refine ⟨xs, hD4, small1000 (by omega), xs ++ [v], t ++ [ns], upd_same, ((h2.kp h5 kp4).snoc hv).upd hD4, h3.snoc (by omega) hL, by rw [List.length_append, h4]; rfl, (D4.upd nD.1 nD.2.1 nD.2.2).mono (by omega), ?_⟩
        intro b o e n1 n2
        rw [upd_ne (ne_of_none e hDn)]
        exact kp4 b o (h6 b o e n1 n2) n1 n2
      · obtain ⟨xs, t, h1, h2, h3, h4, h5, h6⟩ := hP
        refine ⟨D, _, rfl, .inl ⟨SqL.of h1, fun p hp => ?_⟩⟩
        exact q _ _ t ⟨p, xs, rfl, SqT.of upd_same, h2.same (Sm.new hp)⟩ h3 (by omega) ((h5.new hp).mono (by omega)) (k5.trans (h6.trans (Kp.new hp)))
    -- a nested one
    refine ⟨.ref d, rfl, .int (cnt : Int), rfl, .ref g, rfl, d, c, r, _, cnt, g, gs, rfl, D3, by omega, c1, c2, SqL.of hg3, gd, gr, hG, fun H4 tv t hTT hWT htl D4 kp4 => ?_⟩
    have hg4 : H4 g = some (.lst (gs.map V.int)) := kp4 g _ hg3 gd gr
    have k4 : Kp d r H H4 := k3.trans kp4
    refine ⟨.int (way : Int), rfl, rfl, _, rfl, ?_⟩
    refine ite2 (fun e => iteT ⟨_, rfl, q H4 tv t hTT hWT htl (D4.mono (by omega)) k4⟩) (fun e2 => ?_)
    refine ⟨.int (cnt : Int), rfl, rfl, _, rfl, ite2 (fun e => ⟨_, rfl, q H4 tv t hTT hWT htl (D4.mono (by omega)) k4⟩) (fun e3 => ?_)⟩
    have hcnt : cnt ≠ 1 := fun z => e3 (decide_eq_true (by rw [z]; rfl))
    refine ⟨.int (way : Int), rfl, rfl, _, rfl, ite2 (fun e => ?_) (fun e4 => ?_)⟩
    · exact ⟨.ref d, rfl, _, rfl, .ref g, rfl, d, c, r, _, tv, t, g, gs, rfl, D4, by omega, hTT, hWT, by omega, hg4, gd, gr, hG, fun H5 v t' h1 h2 h3 D5 kp5 => q H5 v t' h1 h2 (by omega) (D5.mono (by omega)) (k4.trans kp5)⟩
    -- one level changed
    refine ⟨.ref d, rfl, .int (cnt : Int), rfl, _, _, rfl, rfl, d, c, r, _, _, rfl, D4, by omega, by omega, by omega, fun H5 k5 l5 D5 kp5 => ?_⟩
    refine ⟨_, _, rfl, rfl, ?_⟩
    dsimp only
    rw [show (1 : Int) + (k5 : Int) = ((1 + k5 : Nat) : Int) by omega]
    obtain ⟨o1, ho1⟩ : ∃ o1, o1 = 1 + k5 := ⟨_, rfl⟩
    rw [← ho1]
    have ho1l : o1 < cnt := by omega
    refine ⟨.ref d, rfl, .int (o1 : Int), rfl, d, c, r, _, _, rfl, D5, by omega, by omega, by omega, fun H6 k6 l6 D6 kp6 => ?_⟩
    have hg6 : H6 g = some (.lst (gs.map V.int)) := kp6 g _ (kp5 g _ hg4 gd gr) gd gr
    refine ⟨.ref d, rfl, .ref g, rfl, _, _, rfl, rfl, ⟨by decide, by decide, by decide⟩, (by show 2 ≤ sizeLine; decide), fun p7 hp7 => ?_⟩
    have hg7 : (upd H6 p7 (.lst [.int 1, .int (10 ^ (12 : Int).toNat)])) g = some (.lst (gs.map V.int)) := Sm.new hp7 _ _ hg6
    refine ⟨g, p7, _, _, rfl, rfl, hg7, upd_same, by rw [List.length_map]; have := hG.2.1; exact Nat.le_of_lt (small1000 (show gs.length + 2 ≤ 1000 by omega)), fun p8 hp8 => ?_⟩
    have D8 := (D6.new (o := .lst [.int 1, .int (10 ^ (12 : Int).toNat)]) hp7).new (o := .lst (gs.map V.int ++ [.int 1, .int (10 ^ (12 : Int).toNat)])) hp8
    have np8 := (D6.new (o := .lst [.int 1, .int (10 ^ (12 : Int).toNat)]) hp7).ne hp8
    refine ⟨d, c, r, _, p8, _, rfl, D8, by omega, SqL.of upd_same, np8.1, np8.2.2, by rw [List.length_append]; show 0 < _ + 2; omega, by rw [List.length_append, List.length_map]; have := hG.2.1; show _ + 2 ≤ 1000; omega, fun H9 i9 v9 hv9 D9 kp9 => ?_⟩
    obtain ⟨lv, hlv, rfl⟩ : ∃ lv : Int, LvOk lv ∧ v9 = .int lv := by
      refine gr_at (gs := gs ++ [1, 10 ^ (12 : Int).toNat]) (fun x hx => ?_) (by rw [List.map_append]; exact hv9)
      rcases List.mem_append.mp hx with hx | hx
      · exact hG.2.2 x hx
      · rcases List.mem_cons.mp hx with hx | hx
        · rw [hx]; exact ⟨by decide, by decide⟩
        · rw [List.mem_singleton.mp hx]; exact ⟨by decide, by decide⟩
    refine ⟨_, _, rfl, ?_⟩
    have kA : Kp d r H4 H9 := (kp5.trans kp6).trans (((Kp.new hp7).trans (Kp.new hp8)).trans kp9)
    have k9 : Kp d r H H9 := k4.trans kA
    obtain ⟨tp, rs, rfl, htp, hR⟩ := hTT.kp D4 kA
    have hrl := hR.1
    obtain ⟨rv, rp, hrv, rfl, hrp⟩ := hR.get (i := o1) (by omega)
    obtain ⟨l1, l2⟩ := hWT.row (i := o1) (by omega)
    have hk6 : k6 < o1 := by omega
    generalize hrow : t.getD o1 [] = row at hrp l1 l2
    -- row
    refine ⟨.ref tp, rfl, .int (o1 : Int), rfl, tp, rs, _, _, rfl, rfl, htp, atI_nat hrv, .int (k6 : Int), rfl, _, rfl, rp, _, rfl, hrp, fun pa Ha sa ha => ?_⟩
    refine ⟨.int lv, rfl, (by show 1 ≤ sizeLine; decide), fun pb hpb => ?_⟩
    have sb : Sm Ha (upd Ha pb (.tup [.int lv])) := Sm.new hpb
    refine ⟨pa, pb, _, _, rfl, rfl, sb.sqT ha, SqT.of upd_same, ?_, fun pc Hc sc hc => ?_⟩
    · have z := cutV_length (row.map V.int) none (some (k6 : Int))
      rw [List.length_map] at z
      exact Nat.le_of_lt (small1000 (show (cutV (row.map V.int) none (some (k6 : Int))).length + 1 ≤ 1000 by omega))
    have s1 := (sa.trans sb).trans sc
    refine ⟨.ref tp, rfl, .int (o1 : Int), rfl, tp, rs, _, _, rfl, rfl, s1.sqT htp, atI_nat hrv, .int (k6 : Int), rfl, _, _, rfl, rfl, _, rfl, rp, _, rfl, s1.sqT hrp, fun pd Hd sd hd => ?_⟩
    rw [show (k6 : Int) + 1 = ((k6 + 1 : Nat) : Int) by omega, cut_from] at hd
    rw [cut_to] at hc
    refine ⟨pc, pd, _, _, rfl, rfl, sd.sqT hc, hd, ?_, fun pe He se he => ?_⟩
    · rw [List.length_append, List.length_take, List.length_drop, List.length_map]
      exact Nat.le_of_lt (small1000 (show min k6 row.length + 1 + (row.length - (k6 + 1)) ≤ 1000 by omega))
    have s2 := (s1.trans sd).trans se
    rw [set_parts _ _ _ (by rw [List.length_map]; omega), ← List.map_set] at he
    -- the table
    refine ⟨.ref tp, rfl, .int (o1 : Int), rfl, _, rfl, tp, rs, rfl, s2.sqT htp, fun pf Hf sf hf => ?_⟩
    refine ⟨.ref pe, rfl, (by show 1 ≤ sizeLine; decide), fun pg hpg => ?_⟩
    have sg : Sm Hf (upd Hf pg (.tup [.ref pe])) := Sm.new hpg
    rw [cut_to] at hf
    refine ⟨pf, pg, _, _, rfl, rfl, sg.sqT hf, SqT.of upd_same, ?_, fun ph Hh sh hh => ?_⟩
    · rw [List.length_take]
      exact Nat.le_of_lt (small1000 (show min o1 rs.length + 1 ≤ 1000 by omega))
    have s3 := ((s2.trans sf).trans sg).trans sh
    refine ⟨.ref tp, rfl, .int (o1 : Int), rfl, _, _, rfl, rfl, _, rfl, tp, rs, rfl, s3.sqT htp, fun pi Hi si hi => ?_⟩
    rw [show (o1 : Int) + 1 = ((o1 + 1 : Nat) : Int) by omega, cut_from] at hi
    refine ⟨ph, pi, _, _, rfl, rfl, si.sqT hh, hi, ?_, fun pj Hj sj hj => ?_⟩
    · rw [List.length_append, List.length_take, List.length_drop]
      exact Nat.le_of_lt (small1000 (show min o1 rs.length + 1 + (rs.length - (o1 + 1)) ≤ 1000 by omega))
    rw [set_parts _ _ _ (by omega)] at hj
    have s4 := (s3.trans si).trans sj
    have s5 : Sm He Hj := ((((sf.trans sg).trans sh).trans si).trans sj)
    refine q Hj _ (t.set o1 (row.set k6 lv)) ⟨pj, rs.set o1 (.ref pe), rfl, hj, (hR.same s4).set ⟨pe, rfl, s5.sqT he⟩⟩ (hWT.set (by rw [List.length_set]; exact l1) (fun x hx => ?_)) (by rw [List.length_set]; exact htl) ((D9.same s4).mono (by omega)) (k9.trans s4.kp)
    rcases List.mem_or_eq_of_mem_set hx with hx | hx
    · exact l2 x hx
    · rw [hx]; exact hlv
end
section
variable {P : Program} {w : World} {K : PySem.W.Frag} {mg : Str → Option Value} {base : Heap}
/-! ### the program: the text of a table -/
theorem sl_small78 {n : Nat} (h : n ≤ 1000000) : n ≤ sizeLine := Nat.le_trans h (by decide)
theorem log_lv78 {i : Int} (h0 : 0 ≤ i) (h : i ≤ 1000000000000) : i.natAbs.log2 < 1920 := by
  have : i.natAbs < 2 ^ 64 := Nat.lt_of_lt_of_le (m := 2000000000000) (by omega) (by decide)
  exact Nat.lt_trans (PySem.Flt.log2_lt_of (by decide) this) (by decide)
def sp_joined78 (K : PySem.W.Frag) : Sp := fun vs H Q _ => ∃ (p : Addr) (ns : List Int), vs = [.ref p] ∧ SqT K H p (ns.map V.int) ∧ (∀ x ∈ ns, LvOk x) ∧ ns.length ≤ 20 ∧ ∀ (H' : Hp) (s : Str), Sm H H' → TL.tl s = TL.joinL [32] (ns.map numI) → Q (.str s) H'
theorem ok_joined78 {f : Addr} {fd : FuncData} {k : Nat} (F : Fun K "joined" "joined" s_joined f fd) (B : Bi mg) : FnOk P w K mg base CX0 (k + 1) f fd ["numbers"] (sp_joined78 K) := by
  refine F.ok sc_joined (fun vs H Q E h => ?_) (fun cdv A outer s H vs Q E hr h => ?_)
  · obtain ⟨p, ns, rfl, _⟩ := h
    rfl
  · obtain ⟨p, ns, rfl, hp, hL, h20, q⟩ := h
    have nd := sc_joined.nd
    refine ⟨_, (pss_one (ps_ret (pe_join pe_str (pe_lc (own := [("number", 1)]) (g := gName 1) (tt := tYes) (te := tCB (fun xs H Q => ∃ i, xs = [.int i] ∧ i.natAbs.log2 < 1920 ∧ Q (.str (toString i)) H) (tCons (tVar 1) tNil)) rfl nd (pi_tup (pv 0)) (blkOk_by (N := N_joined) (sc := defScope s_joined) (by decide +kernel))
            (fun _ _ _ _ _ => pg_name (i := 1) nd rfl (.inl rfl)) (fun _ _ _ _ _ => pts_nil) (fun _ _ _ _ _ => (pe_callTy call_str_int (by rfl) B.str (by decide +kernel) (pa_cons (pv 1) pa_nil))))))), ?_⟩
    refine ⟨⟨_, rfl⟩, .ref p, rfl, p, rfl, ⟨_, hp⟩, fun D hD => lc_tup (xs := ns.map V.int) (fun i Hy => Hy D = some (.lst (((ns.take i).map fun x => (toString x : Str)).map V.str)) ∧ Sm H Hy) ⟨upd_same, Sm.new hD⟩ (fun i Hy _ hQ => hQ.2.sqT hp) (fun i y Hy hy hQ => ?_) (fun Hy hQ => ?_)⟩
    · obtain ⟨g1, sy⟩ := hQ
      rw [List.getElem?_map] at hy
      obtain ⟨x, hx, rfl⟩ := Option.map_eq_some_iff.mp hy
      have hi := (List.getElem?_eq_some_iff.mp hx).1
      have lx := hL x (List.mem_of_getElem? hx)
      refine ⟨rfl, .int x, rfl, x, rfl, log_lv78 (by have := lx.1; omega) lx.2, ?_⟩
      refine ⟨_, g1, by rw [List.length_map, List.length_map, List.length_take]; exact small1000 (by omega), ?_, fun cc o e => by rw [upd_ne (ne_of_none e hD)]; exact sy cc o e⟩
      rw [upd_same, List.take_add_one, hx, List.map_append, List.map_append]
      rfl
    · obtain ⟨g1, sy⟩ := hQ
      rw [List.length_map, List.take_length] at g1
      have hl : ∀ x ∈ ns, (toString x : Str).length ≤ 13 := fun x hx => by
        have lx := hL x hx
        rw [TL.len_tl, tl_int (by have := lx.1; omega)]
        exact numI_len (by have := lx.2; omega)
      have hsum : ∀ l : List Int, (∀ x ∈ l, (toString x : Str).length ≤ 13) → ((l.map fun x => (toString x : Str)).map (·.length)).sum ≤ 13 * l.length := fun l => by
        induction l with
        | nil => exact fun _ => Nat.zero_le _
        | cons x l ih =>
          intro h
          have a := ih fun y hy => h y (List.mem_cons_of_mem _ hy)
          have b := h x List.mem_cons_self
          rw [List.map_cons, List.map_cons, List.sum_cons, List.length_cons, Nat.mul_succ]
          omega
      refine ⟨_, D, ns.map fun x => (toString x : Str), rfl, rfl, .inl (SqL.of g1), ?_, ?_⟩
      · have := hsum ns hl
        have e1 : (Str.ofString " ").length = 1 := by decide +kernel
        rw [List.length_map]
        show _ + ns.length * (Str.ofString " ").length ≤ _
        rw [e1]
        omega
      · refine q _ _ sy ?_
        rw [TL.join_eq, TL.tl_join, List.map_map]
        have e1 : TL.tl (Str.ofString " ") = [32] := by decide +kernel
        show TL.joinL (TL.tl (Str.ofString " ")) _ = _
        rw [e1]
        congr 1
        refine List.map_congr_left fun x hx => ?_
        exact tl_int (by have := (hL x hx).1; omega)
theorem sapp78 {a b : Str} {m n : Nat} (h : a.length ≤ m) (g : b.length ≤ n) : (a ++ b).length ≤ m + n := by
  rw [TL.len_tl] at h g ⊢
  rw [TL.tl_append, List.length_append]
  omega
theorem tl_empty78 : TL.tl Str.empty = [] := by decide +kernel
theorem fs78 (a b c : Str) : TL.tl (((Str.empty ++ a) ++ b) ++ c) = TL.tl a ++ TL.tl b ++ TL.tl c := by
  rw [TL.tl_append, TL.tl_append, TL.tl_append, tl_empty78, List.nil_append]
theorem row_at78 {H : Hp} {rs : List V} {t : List (List Int)} (hR : Rows K H rs t) {i : Nat} {v : V} (h : (rs.drop 1)[i]? = some v) : ∃ r p, (t.drop 1)[i]? = some r ∧ v = .ref p ∧ SqT K H p (r.map V.int) := by
  rw [List.getElem?_drop] at h
  have hi : 1 + i < t.length := by
    rw [← hR.1]
    exact (List.getElem?_eq_some_iff.mp h).1
  obtain ⟨u, p, hu, rfl, hp⟩ := hR.get hi
  rw [h] at hu
  cases hu
  refine ⟨t.getD (1 + i) [], p, ?_, rfl, hp⟩
  rw [List.getElem?_drop, List.getElem?_eq_getElem hi, List.getD_eq_getElem?_getD, List.getElem?_eq_getElem hi]
  rfl
def sp_ftab78 (K : PySem.W.Frag) : Sp := fun vs H Q _ => ∃ (tv : V) (t : List (List Int)), vs = [tv] ∧ TT K H tv t ∧ WT t ∧ 1 ≤ t.length ∧ t.length ≤ 20 ∧ ∀ (H' : Hp) (s : Str), Sm H H' → TL.tl s = ctab t → Q (.str s) H'
set_option maxHeartbeats 8000000 in
theorem ok_ftab78 {f fJ : Addr} {fd fdJ : FuncData} {k : Nat} (F : Fun K "format_table" "format_table" s_format_table f fd) (D_joined : Df K mg "joined" s_joined fJ fdJ ["numbers"]) (B : Bi mg) : FnOk P w K mg base CX0 (k + 2) f fd ["table"] (sp_ftab78 K) := by
  have G_joined : FnOk P w K mg base CX0 (k + 1) fJ fdJ ["numbers"] (sp_joined78 K) := ok_joined78 D_joined.F B
  refine F.ok sc_format_table (fun vs H Q E h => ?_) (fun cdv A outer s H vs Q E hr h => ?_)
  · obtain ⟨tv, t, rfl, _⟩ := h
    rfl
  · obtain ⟨tv, t, rfl, hT, hW, h1, h20, q⟩ := h
    have nd := sc_format_table.nd
    refine ⟨_, (pss_cons (ps_set (i := 1) nd rfl (.inl rfl) (pe_lst (pa_cons (pe_joined (.cons pe_str (.cons (pe_fmt (pe_len B (pv 0))) (.cons pe_str .nil)))) pa_nil)))
      (pss_cons (ps_for PassesOwn.never rfl (pi_tup (pe_slice sl_tupW (pv 0) (po_some pe_int) po_none)) (pg_name (i := 2) nd rfl (.inl rfl))
      (pss_one (ps_expr (pe_bm PySem.F.plainAttrs_list PySem.F.slot_list_append PySem.F.type_list_append mt_append (pv 1) (pa_cons (pe_joined (.cons pe_str (.cons (pe_fmt (pe_cl D_joined G_joined hr (pa_cons (pv 2) pa_nil))) (.cons pe_str .nil)))) pa_nil)))))
      (pss_one (ps_ret (pe_join pe_str (pv 1)))))), ?_⟩
    obtain ⟨tp, rs, rfl, htp, hR⟩ := id hT
    have hrl : rs.length = t.length := hR.1
    have w1 : (Str.ofString "items ").length ≤ 20 := by decide +kernel
    have w2 : (Str.ofString "\n").length ≤ 1 := by decide +kernel
    have w3 : (Str.ofString "row ").length ≤ 20 := by decide +kernel
    have v1 : TL.tl (Str.ofString "items ") = wItems ++ [32] := by decide +kernel
    have v2 : TL.tl (Str.ofString "\n") = [10] := by decide +kernel
    have v3 : TL.tl (Str.ofString "row ") = wRow ++ [32] := by decide +kernel
    have v0 : TL.tl (Str.ofString "") = [] := by decide +kernel
    have e0 : Str.empty.length ≤ 0 := by decide +kernel
    have n1 : TL.tl (toString ((rs.length : Nat) : Int) : Str) = TL.numL t.length := by rw [hrl]; exact TL.tl_num _
    have n2 : (toString ((rs.length : Nat) : Int) : Str).length ≤ 13 := by
      rw [TL.len_tl, n1]
      exact Nat.le_trans (TL.numL_len (n := t.length) (k := 2) (by decide) (by omega)) (by decide)
    refine ⟨_, rfl, sl_small78 (Nat.le_trans (sapp78 e0 w1) (by decide)), .ref tp, rfl, tp, rs, rfl, .inr htp, .inr ⟨(rs.length : Int), rfl, log_lv78 (by omega) (by omega), _, rfl, sl_small78 (Nat.le_trans (sapp78 (sapp78 e0 w1) n2) (by decide)), _, rfl, sl_small78 (Nat.le_trans (sapp78 (sapp78 (sapp78 e0 w1) n2) w2) (by decide)), ?_⟩⟩
    have hL0 := fs78 (Str.ofString "items ") (toString ((rs.length : Nat) : Int) : Str) (Str.ofString "\n")
    rw [v1, n1, v2] at hL0
    generalize ((Str.empty ++ Str.ofString "items ") ++ (toString ((rs.length : Nat) : Int) : Str)) ++ Str.ofString "\n" = L0 at hL0
    refine ⟨small1000 (Nat.le_of_ble_eq_true rfl), fun lo hlo => ?_⟩
    have s0 : Sm H (upd H lo (.lst [.str L0])) := Sm.new hlo
    have hlo0 : (upd H lo (.lst [.str L0])) lo = some (.lst [.str L0]) := upd_same
    generalize upd H lo (.lst [.str L0]) = H0 at s0 hlo0
    refine nx_mk ?_
    refine ⟨.ref tp, rfl, _, rfl, tp, rs, rfl, s0.sqT htp, fun sl H1 s1 hsl => ?_⟩
    rw [show (1 : Int) = ((1 : Nat) : Int) from rfl, cut_from] at hsl
    have hlo1 := s1 _ _ hlo0
    have hdl : (rs.drop 1).length = (t.drop 1).length := by rw [List.length_drop, List.length_drop, hrl]
    have d19 : (t.drop 1).length ≤ 19 := by rw [List.length_drop]; omega
    refine ⟨sl, rfl, ⟨_, hsl⟩, for_tup (xs := rs.drop 1) (fun i σ Hy => ∃ x2 ls, σ = [some (.ref tp), some (.ref lo), x2] ∧ Hy lo = some (.lst (ls.map V.str)) ∧ ls.map TL.tl = (cI t.length :: ((t.drop 1).take i).map cR).map (fun l => l ++ [10]) ∧ SqT K Hy sl (rs.drop 1) ∧ Sm H Hy)
      ⟨none, [L0], rfl, hlo1, ?_, hsl, s0.trans s1⟩ (fun i σ Hy _ hI => ?_) (fun i y σ Hy hy hI => ?_) (fun σ Hy hI => ?_)⟩
    · rw [List.take_zero]
      show [TL.tl L0] = [cI t.length ++ [10]]
      rw [hL0]
      show [((wItems ++ [32]) ++ TL.numL t.length) ++ [10]] = [(wItems ++ (32 :: TL.numL t.length)) ++ [10]]
      simp
    · obtain ⟨_, _, _, _, _, h, _⟩ := hI
      exact h
    · obtain ⟨x2, ls, rfl, hl1, hcd, hsl', sy⟩ := hI
      have hi : i < (t.drop 1).length := by rw [← hdl]; exact (List.getElem?_eq_some_iff.mp hy).1
      obtain ⟨r, p, hr, rfl, hp⟩ := row_at78 hR hy
      have rm : r ∈ t := List.mem_of_mem_drop (List.mem_of_getElem? hr)
      have rl : r.length ≤ 20 := by
        rw [List.getElem?_drop] at hr
        have a := (hW _ r hr).1
        have b := (List.getElem?_eq_some_iff.mp hr).1
        omega
      have ll : ls.length = i + 1 := by
        have a := congrArg List.length hcd
        rw [List.length_map, List.length_map, List.length_cons, List.length_map, List.length_take] at a
        omega
      have cl := cR_len (wt_row hW rm)
      refine ⟨.ref lo, rfl, .inl ⟨rfl, _, SqL.of hl1⟩, ?_⟩
      refine ⟨_, rfl, sl_small78 (Nat.le_trans (sapp78 e0 w3) (by decide)), .ref p, rfl, p, r, rfl, sy.sqT hp, wt_row hW rm, rl, fun H2 z s2 hz => ?_⟩
      have zl : z.length ≤ 300 := by
        rw [cR_join] at cl
        have a := TL.joinL
        rw [TL.len_tl, hz]
        exact Nat.le_trans (lenJ (B := 14) fun q hq => by
          obtain ⟨x, hx, rfl⟩ := List.mem_map.mp hq
          have := numI_len (i := x) (by have := (wt_row hW rm x hx).2; omega)
          show _ + 1 ≤ 14
          omega) (by rw [List.length_map]; omega)
      refine .inl ⟨z, rfl, sl_small78 (by omega), _, rfl, sl_small78 (Nat.le_trans (sapp78 (sapp78 e0 w3) zl) (by decide)), _, rfl, sl_small78 (Nat.le_trans (sapp78 (sapp78 (sapp78 e0 w3) zl) w2) (by decide)), ?_⟩
      have hLr := fs78 (Str.ofString "row ") z (Str.ofString "\n")
      rw [v3, v2, hz] at hLr
      generalize ((Str.empty ++ Str.ofString "row ") ++ z) ++ Str.ofString "\n" = Lr at hLr
      have hl2 := s2 _ _ hl1
      refine ⟨lo, _, _, rfl, rfl, hl2, by rw [List.length_map]; exact small1000 (by omega), ?_⟩
      refine ⟨_, ls ++ [Lr], rfl, by rw [List.map_append]; exact upd_same, ?_, sqT_upd hl2 (s2.sqT hsl'), fun c o e => by rw [upd_ne (ne_of_none e (Sm.free (Sm.refl _) hlo))]; exact (sy.trans s2) c o e⟩
      rw [List.map_append, hcd, List.take_add_one, hr, List.map_append]
      show _ ++ [TL.tl Lr] = (cI t.length :: (((t.drop 1).take i).map cR ++ [cR r])).map _
      rw [← List.cons_append, List.map_append, hLr]
      show _ ++ [((wRow ++ [32]) ++ TL.joinL [32] (r.map numI)) ++ [10]] = _ ++ [cR r ++ [10]]
      have rne : r ≠ [] := fun z => by
        rw [List.getElem?_drop] at hr
        have a := (hW _ r hr).1
        rw [z] at a
        simp at a
        omega
      obtain ⟨x, r', rfl⟩ : ∃ x r', r = x :: r' := by
        cases r with
        | nil => exact absurd rfl rne
        | cons x r' => exact ⟨x, r', rfl⟩
      rw [cR_join, joinL_flat [32] wRow, List.map_cons (f := numI), joinL_flat [32] (numI x), List.flatMap_cons]
      simp
    · obtain ⟨x2, ls, rfl, hl1, hcd, hsl', sy⟩ := hI
      rw [hdl, List.take_length] at hcd
      have ll : ls.length ≤ 20 := by
        have a := congrArg List.length hcd
        rw [List.length_map, List.length_map, List.length_cons, List.length_map] at a
        omega
      have tot : (ls.map (·.length)).sum ≤ 400 * ls.length := by
        have each : ∀ x ∈ ls, x.length ≤ 400 := fun x hx => by
          have m : TL.tl x ∈ (cI t.length :: (t.drop 1).map cR).map (fun l => l ++ [10]) := by rw [← hcd]; exact List.mem_map_of_mem hx
          obtain ⟨l, hl, el⟩ := List.mem_map.mp m
          rw [TL.len_tl, ← el, List.length_append]
          rcases List.mem_cons.mp hl with rfl | hl
          · have := cI_len (n := t.length) h20
            show _ + 1 ≤ 400
            omega
          · obtain ⟨r, hr, rfl⟩ := List.mem_map.mp hl
            have rm := List.mem_of_mem_drop hr
            have a := cR_len (wt_row hW rm)
            obtain ⟨k, hk⟩ := List.getElem?_of_mem rm
            have b := (hW k r hk).1
            have c := (List.getElem?_eq_some_iff.mp hk).1
            show _ + 1 ≤ 400
            omega
        clear hl1 hcd ll
        induction ls with
        | nil => exact Nat.zero_le _
        | cons x ls ih =>
          have a := ih fun y hy => each y (List.mem_cons_of_mem _ hy)
          have b := each x List.mem_cons_self
          rw [List.map_cons, List.sum_cons, List.length_cons, Nat.mul_succ]
          omega
      show _
      refine ⟨⟨_, rfl⟩, .ref lo, rfl, _, lo, ls, rfl, rfl, .inl (SqL.of hl1), ?_, ?_⟩
      · have e1 : (Str.ofString "").length = 0 := by decide +kernel
        show _ + ls.length * (Str.ofString "").length ≤ _
        rw [e1]
        omega
      · refine q _ _ sy ?_
        rw [TL.join_eq, TL.tl_join]
        show TL.joinL (TL.tl (Str.ofString "")) _ = _
        rw [v0, hcd]
        unfold ctab cLines
        generalize cI t.length :: (t.drop 1).map cR = cs
        induction cs with
        | nil => rfl
        | cons c cs ih =>
          rw [List.map_cons, joinL_flat, List.flatMap_cons]
          congr 1
          rw [← ih]
          cases cs with
          | nil => rfl
          | cons c2 cs =>
            rw [List.map_cons, joinL_flat, List.flatMap_cons]
            rfl
end
section
variable {P : Program} {w : World} {K : PySem.W.Frag} {mg : Str → Option Value} {base : Heap}
/-! ### the program: items, levels between items -/
def sp_whole : Sp := fun vs H Q _ => ∃ i : Int, vs = [.int i] ∧ Q (.bl true) H
theorem ok_whole {f : Addr} {fd : FuncData} {k : Nat} (F : Fun K "is_whole" "is_whole" s_is_whole f fd) (B : Bi mg) : FnOk P w K mg base CX0 (k + 1) f fd ["value"] sp_whole := by
  refine F.ok sc_is_whole (fun vs H Q E h => ?_) (fun cdv A outer s H vs Q E hr h => ?_)
  · obtain ⟨i, rfl, _⟩ := h
    rfl
  · obtain ⟨i, rfl, q⟩ := h
    refine ⟨_, pss_one (ps_ret (pe_and (pe_callB call_isi (by rfl) B.isinstance (by decide +kernel) (pa_cons (pv 0) (pa_cons (pe_bltn (by rfl) B.int (by decide +kernel) (v := .ty "int") rfl) pa_nil)))
      (pe_one (pe_not (pe_callB call_isi (by rfl) B.isinstance (by decide +kernel) (pa_cons (pv 0) (pa_cons (pe_bltn (by rfl) B.bool (by decide +kernel) (v := .ty "bool") rfl) pa_nil))))))), ?_⟩
    exact ⟨_, rfl, .int i, .ty "int", .type "int", _, true, rfl, .ty _, .base (.int i), kit_ty (show kitB "int" "int" = some true by decide +kernel), true, rfl, ⟨_, rfl, .int i, .ty "bool", .type "int", _, false, rfl, .ty _, .base (.int i), kit_ty (show kitB "int" "bool" = some false by decide +kernel), false, rfl, q⟩⟩
end
section
variable {P : Program} {w : World} {K : PySem.W.Frag} {mg : Str → Option Value} {base : Heap}
/-! ### the program: a table has no fault -/
def sp_isl : Sp := fun vs H Q _ => ∃ x : Int, vs = [.int x] ∧ LvOk x ∧ Q (.bl true) H
theorem ok_isl {f fW : Addr} {fd fdW : FuncData} (F : Fun K "is_level" "is_level" s_is_level f fd) (DW : Df K mg "is_whole" s_is_whole fW fdW ["value"]) (gL : ∃ t, mg "LEVEL" = some (.int 1000000000000 t)) (B : Bi mg) : FnOk P w K mg base CX0 2 f fd ["value"] sp_isl := by
  obtain ⟨tL, gL⟩ := gL
  have GW : FnOk P w K mg base CX0 1 fW fdW ["value"] sp_whole := ok_whole DW.F B
  refine F.ok sc_is_level (fun vs H Q E h => ?_) (fun cdv A outer s H vs Q E hr h => ?_)
  · obtain ⟨x, rfl, _⟩ := h
    rfl
  · obtain ⟨x, rfl, hx, q⟩ := h
    refine ⟨_, pss_one (ps_ret (pe_and (pe_cl DW GW hr (pa_cons (pv 0) pa_nil)) (pe_one (pe_chain op_le op_le pe_int (pv 0) (pe_glob (v := .int 1000000000000) rfl gL ⟨_, rfl⟩))))), ?_⟩
    refine ⟨.int x, rfl, x, rfl, true, rfl, ⟨.int x, rfl, _, _, rfl, rfl, true, ?_, ⟨_, _, rfl, rfl, ?_⟩⟩⟩
    · show V.bl (decide ((1 : Int) ≤ x)) = V.bl true
      rw [decide_eq_true hx.1]
    · show Q (V.bl (decide (x ≤ (1000000000000 : Int)))) H
      rw [decide_eq_true hx.2]
      exact q
end
section
variable {P : Program} {w : World} {K : PySem.W.Frag} {mg : Str → Option Value} {base : Heap}
/-! ### the program: reading a text -/
theorem pe_removeprefix78 {X : Cx} {o e : Expr} {to te : TE} {apos pos : Pos} (ho : PE X o to) (he : PE X e te) (hs : starEach [e] X.env = [(false, eval e X.env)] := by rfl) (hbase : attributeBase o "removeprefix" X.env (eval o X.env) = eval o X.env := by rfl) (hline : (apos.endLine == pos.line) = true := by rfl) :
    PE X (.Call (.Attribute o "removeprefix" apos) [e] [] pos) (tM1 (fun x xs H Q => ∃ a b, x = .str a ∧ xs = [.str b] ∧ a.length ≤ sizeLine ∧ Q (.str (Txt.removeprefix a b)) H) to te) :=
  pe_m1 PySem.F.slot_str_removeprefix PySem.F.type_str_removeprefix mt_removeprefix ho he hs hbase hline
theorem pe_isascii78 {X : Cx} {o : Expr} {to : TE} {apos pos : Pos} (ho : PE X o to) (hbase : attributeBase o "isascii" X.env (eval o X.env) = eval o X.env := by rfl) (hline : (apos.endLine == pos.line) = true := by rfl) :
    PE X (.Call (.Attribute o "isascii" apos) [] [] pos) (tM0 (fun x xs H Q => ∃ a, x = .str a ∧ xs = [] ∧ True ∧ Q (.bl (Txt.isascii a)) H) to) :=
  pe_m0 PySem.F.slot_str_isascii PySem.F.type_str_isascii mt_isascii ho hbase hline
theorem pe_isdigit78 {X : Cx} {o : Expr} {to : TE} {apos pos : Pos} (ho : PE X o to) (hbase : attributeBase o "isdigit" X.env (eval o X.env) = eval o X.env := by rfl) (hline : (apos.endLine == pos.line) = true := by rfl) :
    PE X (.Call (.Attribute o "isdigit" apos) [] [] pos) (tM0 (fun x xs H Q => ∃ a, x = .str a ∧ xs = [] ∧ True ∧ Q (.bl (Txt.isdigit a)) H) to) :=
  pe_m0 PySem.F.slot_str_isdigit PySem.F.type_str_isdigit mt_isdigit ho hbase hline
theorem pe_lenS78 {X : Cx} {a : Expr} {ta : TE} {p pos : Pos} (B : Bi X.mg) (ha : PE X a ta) (hg : Gl X "len" := by rfl) (he : starEach [a] X.env = (false, eval a X.env) :: starEach [] X.env := by rfl) :
    PE X (.Call (.Name "len" p) [a] [] pos) (tCB (fun xs H Q => ∃ z, xs = [.str z] ∧ z.length ≤ sizeLine ∧ Q (.int z.length) H) (tCons ta tNil)) :=
  pe_callB call_len_str hg B.len PySem.boot_len (pa_cons ha pa_nil he) (by decide) (by decide) he
def sp_num78 : Sp := fun vs H Q _ => ∃ (s : Str) (i : Int), vs = [.str s] ∧ 0 ≤ i ∧ i ≤ 1000000000000 ∧ TL.tl s = numI i ∧ Q (.int i) H
theorem ok_num78 {f : Addr} {fd : FuncData} {k : Nat} (F : Fun K "number_of" "number_of" s_number_of f fd) (gD : ∃ t, mg "DIGITS" = some (.int 13 t)) (B : Bi mg) : FnOk P w K mg base CX0 (k + 1) f fd ["word"] sp_num78 := by
  obtain ⟨tD, gD⟩ := gD
  refine F.ok sc_number_of (fun vs H Q E h => ?_) (fun cdv A outer s H vs Q E hr h => ?_)
  · obtain ⟨s, i, rfl, _⟩ := h
    rfl
  · obtain ⟨s, i, rfl, h0, h12, hs, q⟩ := h
    have nd := sc_number_of.nd
    refine ⟨_, (pss_cons (ps_set (i := 1) nd rfl (.inl rfl) (pe_removeprefix78 (pv 0) pe_str))
      (pss_cons (ps_if (PW.pt (pw_or (pt_not (pt_val (pe_isascii78 (pv 1)))) (pw_or (pt_not (pt_val (pe_isdigit78 (pv 1)))) (pw_or1 (pt_cmpR op_gt (pe_lenS78 B (pv 1)) (pe_glob (v := .int 13) rfl gD ⟨_, rfl⟩) (nomark _))))))
      pss_never
      pss_nil)
      (pss_cons (ps_set (i := 2) nd rfl (.inl rfl) (pe_callTy call_int_str (by rfl) B.int (by decide +kernel) (pa_cons (pv 0) pa_nil)))
      (pss_one (ps_ret (pe_ifExp (pt_cmpR op_eq (pe_callTy call_str_int (by rfl) B.str (by decide +kernel) (pa_cons (pv 2) pa_nil)) (pv 0) (nomark _)) (pv 2) pe_non)))))), ?_⟩
    obtain ⟨f1, f2, f3, f4, f5, f6⟩ := num_facts h0 (by omega) hs
    refine ⟨.str s, rfl, ⟨_, rfl⟩, s, _, rfl, rfl, sl_small78 (by omega), ?_⟩
    show _
    refine nx_mk ?_
    have e1 : Txt.removeprefix s (Str.ofString "-") = s := f1
    rw [e1]
    refine ⟨.str s, rfl, ⟨_, rfl⟩, s, rfl, rfl, trivial, ?_⟩
    rw [f2]
    refine ⟨_, rfl, ?_⟩
    refine iteF ?_
    refine ⟨.str s, rfl, ⟨_, rfl⟩, s, rfl, rfl, trivial, ?_⟩
    rw [f3]
    refine ⟨_, rfl, ?_⟩
    refine iteF ?_
    refine ⟨.str s, rfl, s, rfl, sl_small78 (by omega), _, _, rfl, rfl, _, rfl, ?_⟩
    rw [decide_eq_false (show ¬ ((s.length : Nat) : Int) > 13 by omega)]
    refine iteF ?_
    refine nx_mk ?_
    refine ⟨.str s, rfl, s, i, rfl, f5, by omega, ?_⟩
    refine nx_mk ?_
    refine ⟨.int i, rfl, i, rfl, log_lv78 h0 h12, .str s, rfl, rfl, _, rfl, ?_⟩
    rw [← f6, decide_eq_true rfl]
    refine iteT ?_
    exact ⟨.int i, rfl, q⟩
def sp_cnt78 : Sp := fun vs H Q _ => ∃ (s : Str) (n : Nat), vs = [.str s] ∧ 1 ≤ n ∧ n ≤ 12 ∧ TL.tl s = cI n ∧ ∀ H', Sm H H' → Q (.int (n : Int)) H'
theorem ok_cnt78 {f fN : Addr} {fd fdN : FuncData} {k : Nat} (F : Fun K "count_in" "count_in" s_count_in f fd) (D_number_of : Df K mg "number_of" s_number_of fN fdN ["word"]) (gD : ∃ t, mg "DIGITS" = some (.int 13 t)) (gI : ∃ t, mg "ITEMS" = some (.int 12 t)) (B : Bi mg) : FnOk P w K mg base CX0 (k + 2) f fd ["line"] sp_cnt78 := by
  have G_number_of : FnOk P w K mg base CX0 (k + 1) fN fdN ["word"] sp_num78 := ok_num78 D_number_of.F gD B
  obtain ⟨tI, gI⟩ := gI
  refine F.ok sc_count_in (fun vs H Q E h => ?_) (fun cdv A outer s H vs Q E hr h => ?_)
  · obtain ⟨s, n, rfl, _⟩ := h
    rfl
  · obtain ⟨s, n, rfl, h1, h12, hs, q⟩ := h
    have nd := sc_count_in.nd
    refine ⟨_, (pss_cons (ps_set (i := 1) nd rfl (.inl rfl) (pe_split (pv 0) pe_str))
      (pss_cons (ps_if (PW.pt (pw_or (pt_cmpR op_ne (pe_len B (pv 1)) pe_int (nomark _)) (pw_or1 (pt_cmpR op_ne (pe_ix ix_list (pv 1) pe_int (fun _ _ => rfl)) pe_str (nomark _)))))
      pss_never
      pss_nil)
      (pss_cons (ps_set (i := 2) nd rfl (.inl rfl) (pe_cl D_number_of G_number_of hr (pa_cons (pe_ix ix_list (pv 1) pe_int (fun _ _ => rfl)) pa_nil)))
      (pss_one (ps_ret (pe_ifExp (PW.pt (pw_and (pt_cmpR op_notN (pv 2) pe_non (nomark _)) (pw_and1 (pt_chain op_le op_le pe_int (pv 2) (pe_glob (v := .int 12) rfl gI ⟨_, rfl⟩))))) (pv 2) pe_non)))))), ?_⟩
    have v1 : TL.tl (Str.ofString " ") = [32] := by decide +kernel
    have v2 : (Str.ofString " ").cps.all (· < 256) = true := by decide +kernel
    have v3 : ((Str.ofString " ").length == 0) = false := by decide +kernel
    have v4 : TL.tl (Str.ofString "items") = wItems := by decide +kernel
    have slen : s.length ≤ 1000 := by
      rw [TL.len_tl, hs]
      exact Nat.le_trans (cI_len (by omega)) (by decide)
    have sp := split_codes (s := s) v1 v2 (parts := [wItems, TL.numL n]) (by simp) (fun p hp => by
      rcases List.mem_cons.mp hp with rfl | hp
      · exact nf_items.2
      · rw [List.mem_singleton.mp hp]
        exact TL.numL_free (by omega)) (by rw [hs]; rfl)
    obtain ⟨a, b, eab, ha, hb⟩ : ∃ a b, Txt.split s (Str.ofString " ") = [a, b] ∧ TL.tl a = wItems ∧ TL.tl b = TL.numL n := by
      cases hsp : Txt.split s (Str.ofString " ") with
      | nil => rw [hsp] at sp; simp at sp
      | cons a l =>
        rw [hsp] at sp
        cases l with
        | nil => simp at sp
        | cons b l =>
          cases l with
          | nil =>
            obtain ⟨z1, z2⟩ := List.cons.inj sp
            exact ⟨a, b, rfl, z1, (List.cons.inj z2).1⟩
          | cons c l => simp at sp
    have ea : a = Str.ofString "items" := TL.ext_tl (by rw [ha, v4])
    refine ⟨.str s, rfl, ⟨_, rfl⟩, s, _, rfl, rfl, v3, sl_small78 (by omega), fun p hp => ?_⟩
    have s1 : Sm H (upd H p (.lst ((Txt.split s (Str.ofString " ")).map V.str))) := Sm.new hp
    have hp1 : (upd H p (.lst ((Txt.split s (Str.ofString " ")).map V.str))) p = some (.lst [.str a, .str b]) := by rw [eab]; exact upd_same
    generalize upd H p (.lst ((Txt.split s (Str.ofString " ")).map V.str)) = H1 at s1 hp1
    refine nx_mk ?_
    refine ⟨.ref p, rfl, p, _, rfl, .inl (SqL.of hp1), rfl, _, rfl, iteNS rfl ?_⟩
    refine ⟨.ref p, rfl, p, _, 0, _, rfl, rfl, SqL.of hp1, atI_nat (j := 0) rfl, rfl, _, rfl, ?_⟩
    rw [ea]
    refine iteNS rfl ?_
    refine nx_mk ?_
    refine ⟨.ref p, rfl, p, _, 1, _, rfl, rfl, SqL.of hp1, atI_nat (j := 1) rfl, b, (n : Int), rfl, by omega, by omega, hb, ?_⟩
    refine nx_mk ?_
    refine ⟨.int (n : Int), rfl, rfl, _, rfl, ?_⟩
    refine iteT ?_
    refine ⟨.int (n : Int), rfl, _, _, rfl, rfl, true, ?_, ⟨_, _, rfl, rfl, _, rfl, ?_⟩⟩
    · show V.bl (decide ((1 : Int) ≤ (n : Int))) = V.bl true
      rw [decide_eq_true (show (1 : Int) ≤ (n : Int) by omega)]
    · rw [decide_eq_true (show (n : Int) ≤ 12 by omega)]
      exact iteT ⟨.int (n : Int), rfl, q _ s1⟩
def sp_row78 (K : PySem.W.Frag) : Sp := fun vs H Q _ => ∃ (s : Str) (n : Nat) (r : List Int), vs = [.str s, .int (n : Int)] ∧ TL.tl s = cR r ∧ r.length = n ∧ n ≤ 20 ∧ (∀ x ∈ r, LvOk x) ∧ ∀ (H' : Hp) (p : Addr), Sm H H' → SqT K H' p (r.map V.int) → Q (.ref p) H'
set_option maxHeartbeats 8000000 in
theorem ok_row78 {f fN fL fW : Addr} {fd fdN fdL fdW : FuncData} (F : Fun K "row_in" "row_in" s_row_in f fd) (D_number_of : Df K mg "number_of" s_number_of fN fdN ["word"]) (D_is_level : Df K mg "is_level" s_is_level fL fdL ["value"]) (DW : Df K mg "is_whole" s_is_whole fW fdW ["value"]) (gD : ∃ t, mg "DIGITS" = some (.int 13 t)) (gL : ∃ t, mg "LEVEL" = some (.int 1000000000000 t)) (B : Bi mg) : FnOk P w K mg base CX0 3 f fd ["line", "size"] (sp_row78 K) := by
  have G_number_of : FnOk P w K mg base CX0 2 fN fdN ["word"] sp_num78 := ok_num78 D_number_of.F gD B
  have G_is_level : FnOk P w K mg base CX0 2 fL fdL ["value"] sp_isl := ok_isl D_is_level.F DW gL B
  refine F.ok sc_row_in (fun vs H Q E h => ?_) (fun cdv A outer s H vs Q E hr h => ?_)
  · obtain ⟨s, n, r, rfl, _⟩ := h
    rfl
  · obtain ⟨s, n, r, rfl, hs, hl, h20, hL, q⟩ := h
    have nd := sc_row_in.nd
    refine ⟨_, (pss_cons (ps_set (i := 2) nd rfl (.inl rfl) (pe_split (pv 0) pe_str))
      (pss_cons (ps_set (i := 3) nd rfl (.inl rfl) (pe_callTy call_tuple_of (by rfl) B.tuple (by decide +kernel) (pa_cons (pe_lc (own := [("word", 4)]) (g := gName 4) (tt := tYes) (te := tCall sp_num78 [] E0 (tCons (tVar 4) tNil)) rfl nd (pi_list (pe_slice sl_list (pv 2) (po_some pe_int) po_none)) (blkOk_by (N := N_row_in) (sc := defScope s_row_in) (by decide +kernel))
            (fun _ _ _ _ _ => pg_name (i := 4) nd rfl (.inl rfl)) (fun _ _ _ _ _ => pts_nil) (fun _ _ _ _ _ => (pe_cl D_number_of G_number_of hr (pa_cons (pv 4) pa_nil)))) pa_nil)))
      (pss_cons (ps_if (PW.pt (pw_or (pt_cmpR op_ne (pe_ix ix_list (pv 2) pe_int (fun _ _ => rfl)) pe_str (nomark _)) (pw_or1 (pt_cmpR op_ne (pe_len B (pv 3)) (pv 1) (nomark _)))))
      pss_never
      pss_nil)
      (pss_one (ps_ret (pe_ifExp (pt_val (pe_callB (cr_all rfl) (by rfl) B.all (by decide +kernel) (pa_cons (pe_lc (own := [("level", 5)]) (g := gName 5) (tt := tYes) (te := tCall sp_isl [] E0 (tCons (tVar 5) tNil)) rfl nd (pi_tup (pv 3)) (blkOk_by (N := N_row_in) (sc := defScope s_row_in) (by decide +kernel))
            (fun _ _ _ _ _ => pg_name (i := 5) nd rfl (.inl rfl)) (fun _ _ _ _ _ => pts_nil) (fun _ _ _ _ _ => (pe_cl D_is_level G_is_level hr (pa_cons (pv 5) pa_nil)))) pa_nil))) (pv 3) pe_non)))))), ?_⟩
    have v1 : TL.tl (Str.ofString " ") = [32] := by decide +kernel
    have v2 : (Str.ofString " ").cps.all (· < 256) = true := by decide +kernel
    have v3 : ((Str.ofString " ").length == 0) = false := by decide +kernel
    have v4 : TL.tl (Str.ofString "row") = wRow := by decide +kernel
    have slen : s.length ≤ 1000 := by
      rw [TL.len_tl, hs]
      have := cR_len hL
      omega
    have sp := split_codes (s := s) v1 v2 (parts := wRow :: r.map numI) (by simp) (words_free r) (by rw [hs, cR_join])
    obtain ⟨a, ws, eab, ha, hws⟩ : ∃ a ws, Txt.split s (Str.ofString " ") = a :: ws ∧ TL.tl a = wRow ∧ ws.map TL.tl = r.map numI := by
      cases hsp : Txt.split s (Str.ofString " ") with
      | nil => rw [hsp] at sp; simp at sp
      | cons a l =>
        rw [hsp] at sp
        obtain ⟨z1, z2⟩ := List.cons.inj sp
        exact ⟨a, l, rfl, z1, z2⟩
    have ea : a = Str.ofString "row" := TL.ext_tl (by rw [ha, v4])
    have wl : ws.length = r.length := by
      have := congrArg List.length hws
      rw [List.length_map, List.length_map] at this
      exact this
    refine ⟨.str s, rfl, ⟨_, rfl⟩, s, _, rfl, rfl, v3, sl_small78 (by omega), fun p hp => ?_⟩
    have s1 : Sm H (upd H p (.lst ((Txt.split s (Str.ofString " ")).map V.str))) := Sm.new hp
    have hp1 : (upd H p (.lst ((Txt.split s (Str.ofString " ")).map V.str))) p = some (.lst ((a :: ws).map V.str)) := by rw [eab]; exact upd_same
    generalize upd H p (.lst ((Txt.split s (Str.ofString " ")).map V.str)) = H1 at s1 hp1
    refine nx_mk ?_
    refine ⟨.ref p, rfl, _, rfl, p, _, rfl, SqL.of hp1, fun p2 hp2 => ?_⟩
    rw [show (1 : Int) = ((1 : Nat) : Int) from rfl, cut_from]
    have s2 : Sm H1 (upd H1 p2 (.lst (((a :: ws).map V.str).drop 1))) := Sm.new hp2
    have hp22 : (upd H1 p2 (.lst (((a :: ws).map V.str).drop 1))) p2 = some (.lst (ws.map V.str)) := upd_same
    generalize upd H1 p2 (.lst (((a :: ws).map V.str).drop 1)) = H2 at s2 hp22
    refine ⟨p2, rfl, ⟨_, SqL.of hp22⟩, fun D hD => lc_list (xs := ws.map V.str) (fun i Hy => Hy D = some (.lst ((r.take i).map V.int)) ∧ Sm H2 Hy) ⟨upd_same, Sm.new hD⟩ (fun i Hy _ hQ => SqL.of (hQ.2 _ _ hp22)) (fun i y Hy hy hQ => ?_) (fun Hy hQ => ?_)⟩
    · obtain ⟨g1, sy⟩ := hQ
      rw [List.getElem?_map] at hy
      obtain ⟨w, hw, rfl⟩ := Option.map_eq_some_iff.mp hy
      have hi : i < r.length := by rw [← wl]; exact (List.getElem?_eq_some_iff.mp hw).1
      obtain ⟨x, hx⟩ : ∃ x, r[i]? = some x := ⟨_, List.getElem?_eq_getElem hi⟩
      have lx := hL x (List.mem_of_getElem? hx)
      have hwx : TL.tl w = numI x := by
        have := congrArg (fun l => l[i]?) hws
        simp only [List.getElem?_map, hw, hx] at this
        exact Option.some.inj this
      refine ⟨rfl, .str w, rfl, w, x, rfl, by have := lx.1; omega, lx.2, hwx, ?_⟩
      refine ⟨_, g1, by rw [List.length_map, List.length_take]; exact small1000 (by omega), ?_, fun cc o e => by rw [upd_ne (ne_of_none e hD)]; exact sy cc o e⟩
      rw [upd_same, List.take_add_one, hx, List.map_append]
      rfl
    obtain ⟨g1, sy⟩ := hQ
    rw [List.length_map, wl, List.take_length] at g1
    refine ⟨D, _, rfl, .inl ⟨SqL.of g1, fun pt hpt => ?_⟩⟩
    have s3 : Sm Hy (upd Hy pt (.tup (r.map V.int))) := Sm.new hpt
    have hpt3 : SqT K (upd Hy pt (.tup (r.map V.int))) pt (r.map V.int) := SqT.of upd_same
    generalize upd Hy pt (.tup (r.map V.int)) = H3 at s3 hpt3
    refine nx_mk ?_
    have s13 := s2.trans (sy.trans s3)
    refine ⟨.ref p, rfl, p, _, 0, _, rfl, rfl, SqL.of (s13 _ _ hp1), atI_nat (j := 0) rfl, rfl, _, rfl, ?_⟩
    rw [ea]
    refine iteNS rfl ?_
    refine ⟨.ref pt, rfl, pt, _, rfl, .inr hpt3, .int (n : Int), rfl, rfl, _, rfl, iteNS (by rw [List.length_map, hl]) ?_⟩
    refine nx_mk ?_
    have all : ∀ m : Nat, ((List.replicate m true).map V.bl) ++ [V.bl true] = (List.replicate (m + 1) true).map V.bl := fun m => by
      rw [List.replicate_succ', List.map_append]
      rfl
    refine ⟨.ref pt, rfl, pt, rfl, ⟨_, hpt3⟩, fun D2 hD2 => lc_tup (xs := r.map V.int) (fun i Hz => Hz D2 = some (.lst ((List.replicate i true).map V.bl)) ∧ Sm H3 Hz) ⟨upd_same, Sm.new hD2⟩ (fun i Hz _ hQ => hQ.2.sqT hpt3) (fun i y Hz hy hQ => ?_) (fun Hz hQ => ?_)⟩
    · obtain ⟨k1, sz⟩ := hQ
      rw [List.getElem?_map] at hy
      obtain ⟨x, hx, rfl⟩ := Option.map_eq_some_iff.mp hy
      have hi := (List.getElem?_eq_some_iff.mp hx).1
      refine ⟨rfl, .int x, rfl, x, rfl, hL x (List.mem_of_getElem? hx), ?_⟩
      refine ⟨_, k1, by rw [List.length_map, List.length_replicate]; exact small1000 (by omega), ?_, fun cc o e => by rw [upd_ne (ne_of_none e hD2)]; exact sz cc o e⟩
      rw [upd_same, all]
    obtain ⟨k1, sz⟩ := hQ
    refine ⟨D2, _, rfl, SqL.of k1, _, rfl, ?_⟩
    have et : ∀ m : Nat, (List.replicate m true).all _root_.id = true := fun m => List.all_eq_true.mpr fun b hb => by rw [List.eq_of_mem_replicate hb]; rfl
    rw [et]
    exact iteT ⟨.ref pt, rfl, q _ _ (s1.trans (s13.trans sz)) (sz.sqT hpt3)⟩
end
section
variable {P : Program} {w : World} {K : PySem.W.Frag} {mg : Str → Option Value} {base : Heap}
/-! ### the program: the table of a text -/
def sp_plin78 (K : PySem.W.Frag) : Sp := fun vs H Q _ => ∃ (lo : Addr) (ls : List Str) (t : List (List Int)), vs = [.ref lo] ∧ H lo = some (.lst (ls.map V.str)) ∧ ls.map TL.tl = cLines t ∧ WT t ∧ 1 ≤ t.length ∧ t.length ≤ 12 ∧ ∀ (H' : Hp) (p q' : Addr) (xs : List V), Sm H H' → SqT K H' p [.int (t.length : Int), .ref q'] → H' q' = some (.lst xs) → Rows K H' xs t → Q (.ref p) H'
set_option maxHeartbeats 8000000 in
theorem ok_plin78 {f fC fR fN fL fW : Addr} {fd fdC fdR fdN fdL fdW : FuncData} (F : Fun K "parse_lines" "parse_lines" s_parse_lines f fd) (D_count_in : Df K mg "count_in" s_count_in fC fdC ["line"]) (D_row_in : Df K mg "row_in" s_row_in fR fdR ["line", "size"]) (D_number_of : Df K mg "number_of" s_number_of fN fdN ["word"]) (D_is_level : Df K mg "is_level" s_is_level fL fdL ["value"]) (DW : Df K mg "is_whole" s_is_whole fW fdW ["value"])
    (gD : ∃ t, mg "DIGITS" = some (.int 13 t)) (gI : ∃ t, mg "ITEMS" = some (.int 12 t)) (gL : ∃ t, mg "LEVEL" = some (.int 1000000000000 t)) (B : Bi mg) : FnOk P w K mg base CX0 4 f fd ["lines"] (sp_plin78 K) := by
  have G_count_in : FnOk P w K mg base CX0 3 fC fdC ["line"] sp_cnt78 := ok_cnt78 D_count_in.F D_number_of gD gI B
  have G_row_in : FnOk P w K mg base CX0 3 fR fdR ["line", "size"] (sp_row78 K) := ok_row78 D_row_in.F D_number_of D_is_level DW gD gL B
  refine F.ok sc_parse_lines (fun vs H Q E h => ?_) (fun cdv A outer s H vs Q E hr h => ?_)
  · obtain ⟨lo, ls, t, rfl, _⟩ := h
    rfl
  · obtain ⟨lo, ls, t, rfl, hlo, hls, hW, h1, h12, q⟩ := h
    have nd := sc_parse_lines.nd
    refine ⟨_, (pss_cons (ps_set (i := 1) nd rfl (.inl rfl) (pe_cl D_count_in G_count_in hr (pa_cons (pe_ix ix_list (pv 0) pe_int (fun _ _ => rfl)) pa_nil)))
      (pss_cons (ps_if (pt_cmpR op_isN (pv 1) pe_non (nomark _))
      pss_never
      pss_nil)
      (pss_cons (ps_set (i := 2) nd rfl (.inl rfl) (pe_lst (pa_cons (pe_tup pa_nil) pa_nil)))
      (pss_cons (ps_for PassesOwn.never rfl (pi_enum1 rfl B.enumerate (pa_cons (pe_slice sl_list (pv 0) (po_some pe_int) po_none) pa_nil) (pk_cons pe_int pk_nil)) (pg_tup rfl (pgs_cons (pg_name (i := 3) nd rfl (.inl rfl)) (pgs_cons (pg_name (i := 4) nd rfl (.inl rfl)) pgs_nil)))
      (pss_cons (ps_set (i := 5) nd rfl (.inl rfl) (pe_cl D_row_in G_row_in hr (pa_cons (pv 4) (pa_cons (pv 3) pa_nil))))
      (pss_cons (ps_if (PW.pt (pw_or (pt_cmpR op_ge (pv 3) (pv 1) (nomark _)) (pw_or1 (pt_cmpR op_isN (pv 5) pe_non (nomark _)))))
      pss_never
      pss_nil)
      (pss_one (ps_expr (pe_bm PySem.F.plainAttrs_list PySem.F.slot_list_append PySem.F.type_list_append mt_append (pv 2) (pa_cons (pv 5) pa_nil)))))))
      (pss_one (ps_ret (pe_tup (pa_cons (pv 1) (pa_cons (pv 2) pa_nil))))))))), ?_⟩
    have ll : ls.length = t.length := by
      have := congrArg List.length hls
      unfold cLines at this
      rw [List.length_map, List.length_cons, List.length_map, List.length_drop] at this
      omega
    obtain ⟨l0, hl0⟩ : ∃ l0, ls[0]? = some l0 := ⟨_, List.getElem?_eq_getElem (by omega)⟩
    have hc0 : TL.tl l0 = cI t.length := by
      have := congrArg (fun l => l[0]?) hls
      simp only [List.getElem?_map, hl0] at this
      exact Option.some.inj this
    refine ⟨.ref lo, rfl, lo, _, 0, _, rfl, rfl, SqL.of hlo, atI_nat (j := 0) (by rw [List.getElem?_map, hl0]; rfl), l0, t.length, rfl, h1, h12, hc0, fun H1 s1 => ?_⟩
    refine nx_mk ?_
    refine ⟨.int (t.length : Int), rfl, rfl, _, rfl, ?_⟩
    refine iteF ?_
    show _
    refine nx_mk ?_
    refine ⟨Nat.zero_le _, fun e0 he0 => ⟨small1000 (Nat.le_of_ble_eq_true rfl), fun rw he1 => ?_⟩⟩
    have sE := Sm.new (o := .tup []) he0
    have qe : SqT K (upd H1 e0 (.tup [])) e0 [] := SqT.of upd_same
    generalize upd H1 e0 (.tup []) = H2 at sE he1 qe
    have s3 : Sm H2 (upd H2 rw (.lst [.ref e0])) := Sm.new he1
    have h12' := s1.trans sE
    have hrwH : H rw = none := Sm.free h12' he1
    have hrw3 : (upd H2 rw (.lst [.ref e0])) rw = some (.lst [.ref e0]) := upd_same
    have q3 := s3.sqT qe
    have s03 := h12'.trans s3
    generalize upd H2 rw (.lst [.ref e0]) = H3 at s3 hrw3 q3 s03
    refine nx_mk ?_
    refine ⟨.ref lo, rfl, _, rfl, lo, _, rfl, SqL.of (s03 _ _ hlo), fun p2 hp2 => ?_⟩
    rw [show (1 : Int) = ((1 : Nat) : Int) from rfl, cut_from]
    have s4 : Sm H3 (upd H3 p2 (.lst ((ls.map V.str).drop 1))) := Sm.new hp2
    have hp24 : (upd H3 p2 (.lst ((ls.map V.str).drop 1))) p2 = some (.lst ((ls.map V.str).drop 1)) := upd_same
    have nrp : rw ≠ p2 := ne_of_none hrw3 hp2
    have hrw4 := s4 _ _ hrw3
    have q4 := s4.sqT q3
    have s04 := s03.trans s4
    generalize upd H3 p2 (.lst ((ls.map V.str).drop 1)) = H4 at s4 hp24 hrw4 q4 s04
    have et0 : t[0]? = some [] := by
      obtain ⟨r0, hr0⟩ : ∃ r0, t[0]? = some r0 := ⟨_, List.getElem?_eq_getElem (by omega)⟩
      rw [hr0, List.eq_nil_of_length_eq_zero (hW 0 r0 hr0).1]
    refine ⟨p2, _, rfl, rfl, SqL.of hp24, for_enum1 (xs := (ls.map V.str).drop 1) (fun i σ Hy => ∃ x3 x4 x5 xs, σ = [some (.ref lo), some (.int (t.length : Int)), some (.ref rw), x3, x4, x5] ∧ Hy rw = some (.lst xs) ∧ Rows K Hy xs (t.take (i + 1)) ∧ Hy p2 = some (.lst ((ls.map V.str).drop 1)) ∧ Sm H Hy)
      ⟨none, none, none, [.ref e0], rfl, hrw4, ?_, hp24, s04⟩ (fun i σ Hy hI => ?_) (fun i y T σ Hy hy hI hT => ?_) (fun σ Hy hI => ?_)⟩
    · rw [List.take_add_one, et0]
      exact Rows.nil.snoc ⟨e0, rfl, q4⟩
    · obtain ⟨_, _, _, _, _, _, _, h, _⟩ := hI
      exact SqL.of h
    · obtain ⟨x3, x4, x5, xs, rfl, hx, hR, hp, sy⟩ := hI
      rw [List.getElem?_drop, List.getElem?_map] at hy
      obtain ⟨l, hl, rfl⟩ := Option.map_eq_some_iff.mp hy
      have hi : 1 + i < t.length := by rw [← ll]; exact (List.getElem?_eq_some_iff.mp hl).1
      obtain ⟨r, hr⟩ : ∃ r, t[1 + i]? = some r := ⟨_, List.getElem?_eq_getElem hi⟩
      obtain ⟨rl, rL⟩ := hW _ r hr
      have hcl : TL.tl l = cR r := by
        have := congrArg (fun l => l[1 + i]?) hls
        unfold cLines at this
        rw [show 1 + i = i + 1 by omega] at this hr hl
        simp only [List.getElem?_map, hl, List.getElem?_cons_succ, List.getElem?_drop] at this
        rw [show 1 + i = i + 1 by omega, hr] at this
        exact Option.some.inj this
      have sT : Sm Hy (upd Hy T (.tup [.int ((i + 1 : Nat) : Int), .str l])) := Sm.new hT
      refine ⟨T, _, rfl, SqT.of upd_same, rfl, _, _, rfl, _, _, rfl, rfl, ?_⟩
      generalize upd Hy T (.tup [.int ((i + 1 : Nat) : Int), .str l]) = Hz at sT
      refine ⟨.str l, rfl, .int ((i + 1 : Nat) : Int), rfl, l, i + 1, r, rfl, hcl, by omega, by omega, rL, fun H5 p s5 hp5 => ?_⟩
      refine nx_mk ?_
      refine ⟨.int ((i + 1 : Nat) : Int), rfl, .int (t.length : Int), rfl, _, _, rfl, rfl, _, rfl, ?_⟩
      rw [decide_eq_false (show ¬ (((i + 1 : Nat) : Int) ≥ (t.length : Int)) by omega)]
      refine iteF ?_
      refine ⟨.ref p, rfl, rfl, _, rfl, ?_⟩
      refine iteF ?_
      show _
      have s6 := sT.trans s5
      have hx6 := s6 _ _ hx
      refine nx_mk ?_
      refine ⟨.ref rw, rfl, .inl ⟨rfl, _, SqL.of hx6⟩, .ref p, rfl, rw, xs, _, rfl, rfl, hx6, ?_, ?_⟩
      · have := hR.1
        rw [List.length_take] at this
        exact small1000 (by omega)
      refine ⟨_, _, _, xs ++ [.ref p], rfl, upd_same, ?_, by rw [upd_ne nrp.symm]; exact s6 _ _ hp, fun c o e => by rw [upd_ne (ne_of_none e hrwH)]; exact (sy.trans s6) c o e⟩
      rw [List.take_add_one (i := i + 1), show i + 1 = 1 + i by omega, hr]
      rw [show 1 + i = i + 1 by omega]
      exact ((hR.same s6).snoc ⟨p, rfl, hp5⟩).upd hx6
    · obtain ⟨x3, x4, x5, xs, rfl, hx, hR, hp, sy⟩ := hI
      rw [List.length_drop, List.length_map, ll, show t.length - 1 + 1 = t.length by omega, List.take_length] at hR
      show _
      refine ⟨.int (t.length : Int), rfl, .ref rw, rfl, small1000 (Nat.le_of_ble_eq_true rfl), fun pp hpp => ?_⟩
      have s9 := Sm.new (o := .tup [.int (t.length : Int), .ref rw]) hpp
      exact q _ pp rw xs (sy.trans s9) (SqT.of upd_same) (s9 _ _ hx) (hR.same s9)
end
section
variable {P : Program} {w : World} {K : PySem.W.Frag} {mg : Str → Option Value} {base : Heap}
def sp_ptab78 (K : PySem.W.Frag) : Sp := fun vs H Q _ => ∃ (s : Str) (t : List (List Int)), vs = [.str s] ∧ TL.tl s = ctab t ∧ WT t ∧ 1 ≤ t.length ∧ t.length ≤ 12 ∧ ∀ (H' : Hp) (v : V), Sm H H' → TT K H' v t → Q v H'
set_option maxHeartbeats 8000000 in
theorem ok_ptab78 {f fP fC fR fN fL fW : Addr} {fd fdP fdC fdR fdN fdL fdW : FuncData} (F : Fun K "parse_table" "parse_table" s_parse_table f fd) (D_parse_lines : Df K mg "parse_lines" s_parse_lines fP fdP ["lines"]) (D_count_in : Df K mg "count_in" s_count_in fC fdC ["line"]) (D_row_in : Df K mg "row_in" s_row_in fR fdR ["line", "size"]) (D_number_of : Df K mg "number_of" s_number_of fN fdN ["word"]) (D_is_level : Df K mg "is_level" s_is_level fL fdL ["value"]) (DW : Df K mg "is_whole" s_is_whole fW fdW ["value"])
    (gD : ∃ t, mg "DIGITS" = some (.int 13 t)) (gI : ∃ t, mg "ITEMS" = some (.int 12 t)) (gL : ∃ t, mg "LEVEL" = some (.int 1000000000000 t)) (B : Bi mg) : FnOk P w K mg base CX0 5 f fd ["value"] (sp_ptab78 K) := by
  have G_parse_lines : FnOk P w K mg base CX0 4 fP fdP ["lines"] (sp_plin78 K) := ok_plin78 D_parse_lines.F D_count_in D_row_in D_number_of D_is_level DW gD gI gL B
  refine F.ok sc_parse_table (fun vs H Q E h => ?_) (fun cdv A outer s0 H vs Q E hr h => ?_)
  · obtain ⟨s, t, rfl, _⟩ := h
    rfl
  · obtain ⟨s, t, rfl, hs, hW, h1, h12, q⟩ := h
    have nd := sc_parse_table.nd
    refine ⟨_, (pss_cons (ps_if (pt_not (pt_val (pe_callB call_isi (by rfl) B.isinstance (by decide +kernel) (pa_cons (pv 0) (pa_cons (pe_bltn (by rfl) B.str (by decide +kernel) (v := .ty "str") rfl) pa_nil)))))
      pss_never
      pss_nil)
      (pss_cons (ps_set (i := 1) nd rfl (.inl rfl) (pe_split (pv 0) pe_str))
      (pss_cons (ps_set (i := 2) nd rfl (.inl rfl) (pe_bm0 PySem.F.plainAttrs_list PySem.F.slot_list_pop PySem.F.type_list_pop mt_pop (pv 1)))
      (pss_cons (ps_if (pt_truth (pv 2) (fun _ => rfl))
      pss_never
      pss_nil)
      (pss_cons (ps_if (pt_not (pt_truth (pv 1) (fun _ => rfl)))
      pss_never
      pss_nil)
      (pss_cons (ps_asg (pe_cl D_parse_lines G_parse_lines hr (pa_cons (pv 1) pa_nil)) (pg_tup rfl (pgs_cons (pg_name (i := 3) nd rfl (.inl rfl)) (pgs_cons (pg_name (i := 4) nd rfl (.inl rfl)) pgs_nil))))
      (pss_cons (ps_if (PW.pt (pw_or (pt_truth (pv 2) (fun _ => rfl)) (pw_or1 (pt_cmpR op_lt (pe_len B (pv 4)) (pv 3) (nomark _)))))
      pss_never
      pss_nil)
      (pss_one (ps_ret (pe_callTy call_tuple_of (by rfl) B.tuple (by decide +kernel) (pa_cons (pv 4) pa_nil))))))))))), ?_⟩
    have v1 : TL.tl (Str.ofString "\n") = [10] := by decide +kernel
    have v2 : (Str.ofString "\n").cps.all (· < 256) = true := by decide +kernel
    have v3 : ((Str.ofString "\n").length == 0) = false := by decide +kernel
    have slen : s.length ≤ 20 + 400 * 12 := by
      rw [TL.len_tl, hs]
      unfold ctab
      refine Nat.le_trans (flat_len (f := fun l => l ++ [10]) (B := 400) fun l hl => ?_) ?_
      · rw [List.length_append]
        show _ + 1 ≤ 400
        rcases List.mem_cons.mp hl with rfl | hl
        · have := cI_len (n := t.length) (by omega)
          omega
        · obtain ⟨r, hr, rfl⟩ := List.mem_map.mp hl
          have rm := List.mem_of_mem_drop hr
          have a := cR_len (wt_row hW rm)
          obtain ⟨k, hk⟩ := List.getElem?_of_mem rm
          have b := (hW k r hk).1
          have c := (List.getElem?_eq_some_iff.mp hk).1
          omega
      · unfold cLines
        rw [List.length_cons, List.length_map, List.length_drop]
        omega
    have sp := split_codes (s := s) v1 v2 (parts := cLines t ++ [[]]) (by simp) lines_free (by rw [hs, ctab_join])
    obtain ⟨ls, z, eS, hls, hz⟩ : ∃ ls z, Txt.split s (Str.ofString "\n") = ls ++ [z] ∧ ls.map TL.tl = cLines t ∧ TL.tl z = [] := by
      obtain ⟨ls, z, e⟩ : ∃ ls z, Txt.split s (Str.ofString "\n") = ls ++ [z] := by
        rcases List.eq_nil_or_concat (Txt.split s (Str.ofString "\n")) with e | ⟨ls, z, e⟩
        · rw [e] at sp
          simp at sp
        · exact ⟨ls, z, by rw [e, List.concat_eq_append]⟩
      rw [e, List.map_append] at sp
      obtain ⟨a, b⟩ := List.append_inj' sp rfl
      exact ⟨ls, z, e, a, (List.cons.inj b).1⟩
    have zl : z.length = 0 := by rw [TL.len_tl, hz]; rfl
    have ll : ls.length = t.length := by
      have := congrArg List.length hls
      unfold cLines at this
      rw [List.length_map, List.length_cons, List.length_map, List.length_drop] at this
      omega
    refine ⟨.str s, rfl, .str s, .ty "str", .type "str", _, true, rfl, .ty _, .base (.str s), kit_ty (show kitB "str" "str" = some true by decide +kernel), _, rfl, ?_⟩
    refine iteF ?_
    show _
    refine nx_mk ?_
    refine ⟨.str s, rfl, ⟨_, rfl⟩, s, _, rfl, rfl, v3, sl_small78 (by omega), fun p hp => ?_⟩
    have s1 : Sm H (upd H p (.lst ((Txt.split s (Str.ofString "\n")).map V.str))) := Sm.new hp
    have hp1 : (upd H p (.lst ((Txt.split s (Str.ofString "\n")).map V.str))) p = some (.lst (ls.map V.str ++ [.str z])) := by rw [eS, List.map_append]; exact upd_same
    generalize upd H p (.lst ((Txt.split s (Str.ofString "\n")).map V.str)) = H1 at s1 hp1
    refine nx_mk ?_
    refine ⟨.ref p, rfl, .inl ⟨rfl, _, SqL.of hp1⟩, p, _, .str z, rfl, rfl, hp1, by rw [List.length_append]; show (ls.map V.str ++ [.str z])[(ls.map V.str).length + 1 - 1]? = _; rw [Nat.add_sub_cancel, List.getElem?_append_right (Nat.le_refl _), Nat.sub_self]; rfl, ?_⟩
    rw [List.dropLast_concat]
    have s2 : Sm H (upd H1 p (.lst (ls.map V.str))) := fun c o e => by rw [upd_ne (ne_of_none e hp)]; exact s1 c o e
    have hp2 : (upd H1 p (.lst (ls.map V.str))) p = some (.lst (ls.map V.str)) := upd_same
    generalize upd H1 p (.lst (ls.map V.str)) = H2 at s2 hp2
    refine nx_mk ?_
    have zf : ((z.length : Int) != 0) = false := by rw [zl]; rfl
    refine ⟨.str z, rfl, false, ⟨sl_small78 (by omega), zf.symm⟩, iteF ?_⟩
    show _
    refine nx_mk ?_
    refine ⟨.ref p, rfl, true, .inl ⟨_, SqL.of hp2, ?_⟩, iteF ?_⟩
    · cases ls with
      | nil => simp at ll; omega
      | cons a l => rfl
    show _
    refine nx_mk ?_
    refine ⟨.ref p, rfl, p, ls, t, rfl, hp2, hls, hW, h1, h12, fun H3 pp rw' xs s3 hpp hrw hR => ?_⟩
    refine ⟨pp, _, rfl, hpp, rfl, _, _, rfl, _, _, rfl, rfl, ?_⟩
    refine nx_mk ?_
    refine ⟨.str z, rfl, false, ⟨sl_small78 (by omega), zf.symm⟩, iteF ?_⟩
    refine ⟨.ref rw', rfl, rw', _, rfl, .inl (SqL.of hrw), .int (t.length : Int), rfl, _, _, rfl, rfl, _, rfl, ?_⟩
    rw [hR.1, decide_eq_false (show ¬ ((t.length : Int) < (t.length : Int)) by omega)]
    refine iteF ?_
    show _
    refine nx_mk ?_
    refine ⟨.ref rw', rfl, rw', _, rfl, .inl ⟨SqL.of hrw, fun pt hpt => ?_⟩⟩
    have s4 := Sm.new (o := .tup xs) hpt
    exact q _ _ (s2.trans (s3.trans s4)) ⟨pt, xs, rfl, SqT.of upd_same, hR.same s4⟩
end
/-! ### trees with their texts -/
inductive TrX (K : PySem.W.Frag) (H : Hp) : Nat → Nat → V → PyData → Prop where
  | leaf (n i : Nat) (hi : i < 100) : TrX K H n 1 (.int (i : Int)) (.int (i : Int))
  | node {n m : Nat} {p : Addr} {l : Int} {vs : List V} {ds : List PyData} {ms : List Nat} (h : SqT K H p (.int l :: vs)) (hl : LvOk l) (l1 : vs.length = ds.length) (l2 : ms.length = vs.length) (l3 : 2 ≤ vs.length) (hm : m = ms.sum)
      (hk : ∀ (k : Nat) v d m', vs[k]? = some v → ds[k]? = some d → ms[k]? = some m' → TrX K H n m' v d) : TrX K H (n + 1) m (.ref p) (.tuple (.int l :: ds))
theorem TrX.same {K : PySem.W.Frag} {H H' : Hp} {n m : Nat} {v : V} {d : PyData} (h : TrX K H n m v d) (s : Sm H H') : TrX K H' n m v d := by
  induction h with
  | leaf n i hi => exact .leaf n i hi
  | node h hl l1 l2 l3 hm _ ih => exact .node (s.sqT h) hl l1 l2 l3 hm ih
theorem sum_kids78 : ∀ {ds : List PyData} {ms : List Nat}, ms.length = ds.length → (∀ (k : Nat) d m, ds[k]? = some d → ms[k]? = some m → (ctx d).length + 25 ≤ 40 * m) → ((ds.map ctx).map List.length).sum + 25 * ds.length ≤ 40 * ms.sum
  | [], [], _, _ => Nat.le_refl _
  | [], _ :: _, e, _ => by simp at e
  | _ :: _, [], e, _ => by simp at e
  | d :: ds, m :: ms, e, h => by
    have a := h 0 d m rfl rfl
    have b := sum_kids78 (ds := ds) (ms := ms) (by simpa using e) fun k d' m' x y => h (k + 1) d' m' (by simpa using x) (by simpa using y)
    simp only [List.map_cons, List.sum_cons, List.length_cons]
    omega
theorem lenJ78 (c : Nat) : ∀ ps : List (List Nat), (ps.map List.length).sum + ps.length ≤ (TL.joinL [c] ps).length + 1 ∧ (TL.joinL [c] ps).length ≤ (ps.map List.length).sum + ps.length
  | [] => ⟨Nat.zero_le _, Nat.le_refl _⟩
  | [p] => by
    show p.length + 0 + 1 ≤ p.length + 1 ∧ p.length ≤ p.length + 0 + 1
    omega
  | p :: q :: r => by
    have a := lenJ78 c (q :: r)
    show p.length + ((q :: r).map List.length).sum + ((q :: r).length + 1) ≤ (p ++ ([c] ++ TL.joinL [c] (q :: r))).length + 1 ∧ (p ++ ([c] ++ TL.joinL [c] (q :: r))).length ≤ p.length + ((q :: r).map List.length).sum + ((q :: r).length + 1)
    rw [List.length_append, List.length_append]
    have : [c].length = 1 := rfl
    omega
theorem TrX.len {K : PySem.W.Frag} {H : Hp} {n m : Nat} {v : V} {d : PyData} (h : TrX K H n m v d) : (ctx d).length + 25 ≤ 40 * m := by
  induction h with
  | leaf n i hi =>
    rw [ctx_int]
    have := numI_len (i := (i : Int)) (by omega)
    omega
  | node h hl l1 l2 l3 hm hk ih =>
    rename_i n m p l vs ds ms
    have a := sum_kids78 (ds := ds) (ms := ms) (by omega) fun k d m' x y => by
      obtain ⟨u, hu⟩ : ∃ u, vs[k]? = some u := ⟨_, List.getElem?_eq_getElem (by rw [l1]; exact (List.getElem?_eq_some_iff.mp x).1)⟩
      exact ih k u d m' hu x y
    have b := (lenJ78 32 ((.int l :: ds).map ctx)).2
    have c := numI_len (i := l) (by have := hl.2; omega)
    rw [ctx_tup, List.length_cons, List.length_append]
    rw [List.map_cons, List.map_cons, List.sum_cons, List.length_cons, List.length_map, ctx_int] at b
    rw [List.map_cons, ctx_int]
    have e1 : [41].length = 1 := rfl
    rw [hm]
    omega
section
variable {P : Program} {w : World} {K : PySem.W.Frag} {mg : Str → Option Value} {base : Heap}
def sp_tx78 (K : PySem.W.Frag) (n : Nat) : Sp := fun vs H Q _ => ∃ (v : V) (m : Nat) (d : PyData), vs = [v] ∧ TrX K H n m v d ∧ m ≤ 20 ∧ ∀ (H' : Hp) (s : Str), Sm H H' → TL.tl s = ctx d → Q (.str s) H'
theorem kids_small78 {ms : List Nat} {k m : Nat} (h : ms[k]? = some m) : m ≤ ms.sum := by
  induction ms generalizing k with
  | nil => simp at h
  | cons a ms ih =>
    rw [List.sum_cons]
    cases k with
    | zero => cases Option.some.inj h; omega
    | succ k => have := ih (k := k) (by simpa using h); omega
set_option maxHeartbeats 8000000 in
theorem ok_ftree78 {f : Addr} {fd : FuncData} (D : Df K mg "format_tree" s_format_tree f fd ["tree"]) (B : Bi mg) : ∀ n, FnOk P w K mg base CX0 (n + 1) f fd ["tree"] (sp_tx78 K n)
  | 0 => by
    refine D.F.ok sc_format_tree (fun vs H Q E h => ?_) (fun cdv A outer s H vs Q E hr h => ?_)
    · obtain ⟨v, m, d, rfl, _⟩ := h
      rfl
    · obtain ⟨v, m, d, rfl, hT, hm, q⟩ := h
      have nd := sc_format_tree.nd
      refine ⟨_, pss_cons (ps_if (pt_val (pe_callB call_isi (by rfl) B.isinstance (by decide +kernel) (pa_cons (pv 0) (pa_cons (pe_bltn (by rfl) B.int (by decide +kernel) (v := .ty "int") rfl) pa_nil)))) (pss_one (ps_ret (pe_callTy call_str_int (by rfl) B.str (by decide +kernel) (pa_cons (pv 0) pa_nil)))) pss_nil) pss_never, ?_⟩
      cases hT with
      | leaf n i hi =>
        refine ⟨.int (i : Int), rfl, .int (i : Int), .ty "int", .type "int", _, true, rfl, .ty _, .base (.int _), kit_ty (show kitB "int" "int" = some true by decide +kernel), _, rfl, ?_⟩
        refine iteT ?_
        exact ⟨.int (i : Int), rfl, (i : Int), rfl, log_lv78 (by omega) (by omega), q _ _ (Sm.refl _) (by rw [ctx_int]; exact tl_int (by omega))⟩
  | n + 1 => by
    have G := ok_ftree78 D B n
    refine D.F.ok sc_format_tree (fun vs H Q E h => ?_) (fun cdv A outer s H vs Q E hr h => ?_)
    · obtain ⟨v, m, d, rfl, _⟩ := h
      rfl
    · obtain ⟨v, m, d, rfl, hT, hm, q⟩ := h
      have nd := sc_format_tree.nd
      refine ⟨_, pss_cons (ps_if (pt_val (pe_callB call_isi (by rfl) B.isinstance (by decide +kernel) (pa_cons (pv 0) (pa_cons (pe_bltn (by rfl) B.int (by decide +kernel) (v := .ty "int") rfl) pa_nil)))) (pss_one (ps_ret (pe_callTy call_str_int (by rfl) B.str (by decide +kernel) (pa_cons (pv 0) pa_nil)))) pss_nil)
        (pss_cons (ps_asg (pv 0) (pg_tupS rfl (pgs_cons (pg_name (i := 1) nd rfl (.inl rfl)) (pgs_star (pg_name (i := 2) nd rfl (.inl rfl)) pgs_nil))))
        (pss_cons (ps_setLc (i := 3) (own := [("part", 4)]) (g := gName 4) (tt := tYes) (te := tCall (sp_tx78 K n) [] E0 (tCons (tVar 4) tNil)) rfl nd rfl rfl (sw_true rfl rfl rfl (by decide +kernel)) (pi_list (pv 2)) (blkOk_by (N := N_format_tree) (sc := defScope s_format_tree) (by decide +kernel))
            (fun _ _ _ _ _ => pg_name (i := 4) nd rfl (.inl rfl)) (fun _ _ _ _ _ => pts_nil) (fun _ _ _ _ _ => (pe_cl D G hr (pa_cons (pv 4) pa_nil))))
        (pss_one (ps_ret (pe_op op_add_str (pe_op op_add_str pe_str (pe_join pe_str (pe_lst (pa_cons (pe_callTy call_str_int (by rfl) B.str (by decide +kernel) (pa_cons (pv 1) pa_nil)) (StX.pa_star (pv 3) pa_nil))))) pe_str))))), ?_⟩
      have hlen := hT.len
      cases hT with
      | leaf n i hi =>
        refine ⟨.int (i : Int), rfl, .int (i : Int), .ty "int", .type "int", _, true, rfl, .ty _, .base (.int _), kit_ty (show kitB "int" "int" = some true by decide +kernel), _, rfl, ?_⟩
        refine iteT ?_
        exact ⟨.int (i : Int), rfl, (i : Int), rfl, log_lv78 (by omega) (by omega), q _ _ (Sm.refl _) (by rw [ctx_int]; exact tl_int (by omega))⟩
      | @node _ _ p l vs ds ms h hl l1 l2 l3 hmm hk =>
        refine ⟨.ref p, rfl, .ref p, .ty "int", .type "tuple", _, false, rfl, .ty _, ty_tup h, kit_ty (show kitB "tuple" "int" = some false by decide +kernel), _, rfl, ?_⟩
        refine iteF ?_
        show _
        refine nx_mk ?_
        have mk : ∀ (k : Nat) m', ms[k]? = some m' → m' ≤ 20 := fun k m' e => by have := kids_small78 e; omega
        have vm : vs.length ≤ 40 := by
          have a := sum_kids78 (ds := ds) (ms := ms) (by omega) fun k d m' x y => by
            obtain ⟨u, hu⟩ : ∃ u, vs[k]? = some u := ⟨_, List.getElem?_eq_getElem (by rw [l1]; exact (List.getElem?_eq_some_iff.mp x).1)⟩
            exact (hk k u d m' hu x y).len
          omega
        refine ⟨.ref p, rfl, p, _, rfl, h, by show 1 < 2; decide, by show 2 ≤ vs.length + 1 + 1; omega, by show vs.length + 1 ≤ 16384; omega, fun q0 hq0 => ?_⟩
        have e1 : (((V.int l :: vs).drop 1).take ((V.int l :: vs).length + 1 - 2)) = vs := by
          show vs.take (vs.length + 1 + 1 - 2) = vs
          rw [show vs.length + 1 + 1 - 2 = vs.length by omega, List.take_length]
        have e2 : ((V.int l :: vs).take 1 ++ [V.ref q0] ++ ((V.int l :: vs).drop 1).drop ((V.int l :: vs).length + 1 - 2)) = [V.int l, .ref q0] := by
          show [V.int l, .ref q0] ++ vs.drop (vs.length + 1 + 1 - 2) = _
          rw [show vs.length + 1 + 1 - 2 = vs.length by omega, List.drop_length]
          rfl
        show gCons (gName 1) (gCons (gName 2) gNil) ((V.int l :: vs).take 1 ++ [V.ref q0] ++ ((V.int l :: vs).drop 1).drop ((V.int l :: vs).length + 1 - 2)) _ (upd H q0 (.lst (((V.int l :: vs).drop 1).take ((V.int l :: vs).length + 1 - 2)))) _
        rw [e1, e2]
        have s1 : Sm H (upd H q0 (.lst vs)) := Sm.new hq0
        have hq1 : (upd H q0 (.lst vs)) q0 = some (.lst vs) := upd_same
        generalize upd H q0 (.lst vs) = H1 at s1 hq1
        refine ⟨.int l, [.ref q0], rfl, .ref q0, [], rfl, rfl, ?_⟩
        refine nx_mk ?_
        refine ⟨.ref q0, rfl, q0, rfl, ⟨_, SqL.of hq1⟩, fun D hD => lc_list (xs := vs) (fun i Hy => ∃ ys : List Str, Hy D = some (.lst (ys.map V.str)) ∧ ys.map TL.tl = (ds.take i).map ctx ∧ Sm H1 Hy) ⟨[], upd_same, by simp, Sm.new hD⟩ (fun i Hy _ hQ => by obtain ⟨_, _, _, sy⟩ := hQ; exact SqL.of (sy _ _ hq1)) (fun i v Hy hv hQ => ?_) (fun Hy hQ => ?_)⟩
        · obtain ⟨ys, g1, g2, sy⟩ := hQ
          have hi : i < vs.length := (List.getElem?_eq_some_iff.mp hv).1
          obtain ⟨d, hd⟩ : ∃ d, ds[i]? = some d := ⟨_, List.getElem?_eq_getElem (by omega)⟩
          obtain ⟨m', hm'⟩ : ∃ m', ms[i]? = some m' := ⟨_, List.getElem?_eq_getElem (by omega)⟩
          have yl : ys.length ≤ 40 := by
            have := congrArg List.length g2
            rw [List.length_map, List.length_map, List.length_take] at this
            omega
          refine ⟨rfl, v, rfl, v, m', d, rfl, (hk i v d m' hv hd hm').same (s1.trans sy), mk i m' hm', fun H2 s s2 hs => ?_⟩
          refine ⟨_, s2 _ _ g1, by rw [List.length_map]; exact small1000 (by omega), ys ++ [s], by rw [upd_same, List.map_append]; rfl, ?_, fun cc o e => by rw [upd_ne (ne_of_none e hD)]; exact (sy.trans s2) cc o e⟩
          rw [List.map_append, g2, List.take_add_one, hd, List.map_append]
          show _ ++ [TL.tl s] = _ ++ [ctx d]
          rw [hs]
        obtain ⟨ys, g1, g2, sy⟩ := hQ
        rw [l1, List.take_length] at g2
        refine nx_mk ?_
        have yl : ys.length = ds.length := by
          have := congrArg List.length g2
          rw [List.length_map, List.length_map] at this
          exact this
        have nl : TL.tl (toString l : Str) = numI l := tl_int (by have := hl.1; omega)
        have v1 : TL.tl (Str.ofString " ") = [32] := by decide +kernel
        have v2 : TL.tl (Str.ofString "(") = [40] := by decide +kernel
        have v3 : TL.tl (Str.ofString ")") = [41] := by decide +kernel
        have w1 : (Str.ofString " ").length = 1 := by decide +kernel
        have w2 : (Str.ofString "(").length ≤ 1 := by decide +kernel
        have w3 : (Str.ofString ")").length ≤ 1 := by decide +kernel
        have eJ : ((toString l : Str) :: ys).map TL.tl = (PyData.int l :: ds).map ctx := by
          rw [List.map_cons, List.map_cons, nl, g2, ctx_int]
        have tot : (((toString l : Str) :: ys).map (·.length)).sum + ((toString l : Str) :: ys).length * 1 ≤ 1000 := by
          have a := (lenJ78 32 ((PyData.int l :: ds).map ctx)).1
          rw [ctx_tup, List.length_cons, List.length_append] at hlen
          have b : ((toString l : Str) :: ys).map (·.length) = ((PyData.int l :: ds).map ctx).map List.length := by
            rw [← eJ, List.map_map]
            exact List.map_congr_left fun x _ => TL.len_tl x
          have c : ((toString l : Str) :: ys).length = ((PyData.int l :: ds).map ctx).length := by
            rw [List.length_map, List.length_cons, List.length_cons, yl]
          rw [b, c]
          omega
        have s2 := s1.trans sy
        refine ⟨⟨_, rfl⟩, .int l, rfl, l, rfl, log_lv78 (by have := hl.1; omega) hl.2, .ref D, rfl, D, _, rfl, .inr (SqL.of g1), ?_⟩
        refine ⟨by rw [List.length_cons, List.length_append, List.length_map]; exact sl_small78 (by show ys.length + 0 + 1 ≤ _; omega), fun lo hlo => ?_⟩
        have s3 := s2.trans (Sm.new (o := .lst (V.str (toString l : Str) :: (ys.map V.str ++ []))) hlo)
        refine ⟨_, lo, (toString l : Str) :: ys, rfl, rfl, .inl (SqL.of (by rw [upd_same, List.append_nil]; rfl)), ?_, ?_⟩
        · show _ + _ * (Str.ofString " ").length ≤ _
          rw [w1]
          exact Nat.le_trans tot (by decide)
        have hJ : TL.tl (Txt.join (Str.ofString " ") ((toString l : Str) :: ys)) = TL.joinL [32] ((PyData.int l :: ds).map ctx) := by
          rw [TL.join_eq, TL.tl_join, v1, eJ]
        have jl : (Txt.join (Str.ofString " ") ((toString l : Str) :: ys)).length ≤ 1000 := by
          rw [TL.len_tl, hJ]
          rw [ctx_tup, List.length_cons, List.length_append] at hlen
          omega
        refine ⟨_, _, rfl, rfl, sl_small78 (by omega), _, _, rfl, rfl, sl_small78 (Nat.le_trans (Nat.add_le_add (sapp78 w2 jl) w3) (by decide)), ?_⟩
        refine q _ _ s3 ?_
        rw [TL.tl_append, TL.tl_append, hJ, v2, v3, ctx_tup]
        rfl
end
section
variable {P : Program} {w : World} {K : PySem.W.Frag} {mg : Str → Option Value} {base : Heap}
/-! ### the law: a tree read back -/
theorem sl_small80 {n : Nat} (h : n ≤ 16000000) : n ≤ sizeLine := Nat.le_trans h (by decide)
def TkN (p : List Nat) : Prop := p = [40] ∨ p = [41] ∨ ∃ i : Int, 0 ≤ i ∧ i < 10000000000000 ∧ p = numI i
theorem TkN.free {p : List Nat} (h : TkN p) : 32 ∉ p := by
  rcases h with rfl | rfl | ⟨i, _, _, rfl⟩
  · decide
  · decide
  · exact numI_free (by omega)
structure TkOk (d : PyData) : Prop where
  ne : toks d ≠ []
  txt : (ctx d).flatMap par80 = TL.joinL [32] (toks d)
  all : ∀ p ∈ toks d, TkN p
  run : ∀ top rest, (toks d).foldlM stepO (top :: rest) = some ((top ++ [d]) :: rest)
theorem TrX.tk {H : Hp} {n m : Nat} {v : V} {d : PyData} (h : TrX K H n m v d) : TkOk d := by
  induction h with
  | leaf n i hi =>
    refine ⟨by rw [toks_int]; simp, ?_, fun p hp => ?_, fun top rest => ?_⟩
    · rw [ctx_int, toks_int]
      unfold numI
      rw [par_num]
      rfl
    · rw [toks_int] at hp
      exact .inr (.inr ⟨(i : Int), by omega, by omega, List.mem_singleton.mp hp⟩)
    · rw [toks_int, List.foldlM_cons, step_num (by omega)]
      rfl
  | node h hl l1 l2 l3 hm hk ih =>
    rename_i n m p l vs ds ms
    have kid : ∀ d ∈ ds, TkOk d := fun d hd => by
      obtain ⟨k, hk'⟩ := List.getElem?_of_mem hd
      have lk := (List.getElem?_eq_some_iff.mp hk').1
      exact ih k _ d _ (List.getElem?_eq_getElem (by omega)) hk' (List.getElem?_eq_getElem (by omega))
    refine ⟨by rw [toks_tup]; simp, toks_node fun d hd => ⟨(kid d hd).ne, (kid d hd).txt⟩, fun p hp => ?_, fun top rest => run_node (by have := hl.1; omega) (fun d hd => (kid d hd).run) top rest⟩
    rw [toks_tup, List.flatMap_cons, toks_int] at hp
    rcases List.mem_cons.mp hp with rfl | hp
    · exact .inl rfl
    · rcases List.mem_append.mp hp with hp | hp
      · rcases List.mem_append.mp hp with hp | hp
        · exact .inr (.inr ⟨l, by have := hl.1; omega, by have := hl.2; omega, List.mem_singleton.mp hp⟩)
        · obtain ⟨d, hd, hp⟩ := List.mem_flatMap.mp hp
          exact (kid d hd).all p hp
      · exact .inr (.inl (List.mem_singleton.mp hp))
/-- the lists of the stack, the last one first -/
inductive Lays (K : PySem.W.Frag) (H : Hp) : List Addr → List (List PyData) → Prop
  | nil : Lays K H [] []
  | cons {a : Addr} {vs : List V} {ds : List PyData} {as : List Addr} {st : List (List PyData)} : H a = some (.lst vs) → DaAll K noL H vs ds → Lays K H as st → Lays K H (a :: as) (ds :: st)
theorem Lays.same {H H' : Hp} {as : List Addr} {st : List (List PyData)} (h : Lays K H as st) (e : Sm H H') : Lays K H' as st := by
  induction h with
  | nil => exact .nil
  | cons a b _ ih => exact .cons (e _ _ a) (b.same e) ih
theorem da_updL {H : Hp} {D : Addr} {us zs : List V} (hD : H D = some (.lst us)) {vs : List V} {ds : List PyData} (h : DaAll K noL H vs ds) : DaAll K noL (upd H D (.lst zs)) vs ds := h.to (fun a o _ z => z.elim) fun a xs h => sqT_upd hD h
theorem Lays.updL {H : Hp} {as : List Addr} {st : List (List PyData)} {D : Addr} {us zs : List V} (hD : H D = some (.lst us)) (h : Lays K H as st) (hn : D ∉ as) : Lays K (upd H D (.lst zs)) as st := by
  induction h with
  | nil => exact .nil
  | cons ha hb _ ih =>
    rename_i a0 vs ds as st
    refine .cons ?_ (da_updL hD hb) (ih fun z => hn (List.mem_cons_of_mem _ z))
    rw [upd_ne (fun e => hn (by rw [← e]; exact List.mem_cons_self))]
    exact ha
theorem Lays.len {H : Hp} {as : List Addr} {st : List (List PyData)} (h : Lays K H as st) : as.length = st.length := by
  induction h with
  | nil => rfl
  | cons _ _ _ ih => rw [List.length_cons, List.length_cons, ih]
theorem Lays.at_ {H : Hp} {as : List Addr} {st : List (List PyData)} (h : Lays K H as st) {a : Addr} (ha : a ∈ as) : ∃ vs, H a = some (.lst vs) := by
  induction h with
  | nil => cases ha
  | cons e _ _ ih =>
    rcases List.mem_cons.mp ha with rfl | ha
    · exact ⟨_, e⟩
    · exact ih ha
theorem rev_last (a : Addr) (as : List Addr) : ((a :: as).reverse.map V.ref) = as.reverse.map V.ref ++ [.ref a] := by rw [List.reverse_cons, List.map_append]; rfl
def sp_tread80 (K : PySem.W.Frag) : Sp := fun vs H Q _ => ∃ (s : Str) (d : PyData), vs = [.str s] ∧ TL.tl s = ctx d ∧ TkOk d ∧ s.length ≤ 100000 ∧ ∀ (H' : Hp) (u : V), Sm H H' → Da K noL H' u d → Q u H'
set_option maxHeartbeats 8000000 in
theorem ok_tread80 {f : Addr} {fd : FuncData} {k : Nat} (F : Fun K "_law_tree_read" "_law_tree_read" s_L_tree_read f fd) (B : Bi mg) : FnOk P w K mg base CX0 (k + 1) f fd ["_law_words"] (sp_tread80 K) := by
  refine okT F sc_L_tree_read (by decide +kernel) (by decide) (fun vs H Q E h => ?_) (fun cdv A outer s0 H vs Q E hr h => ?_)
  · obtain ⟨s, d, rfl, _⟩ := h
    rfl
  · obtain ⟨s, d, rfl, hs, tk, slen, q⟩ := h
    have nd := sc_L_tree_read.nd
    refine ⟨_, (psst_cons (PST.of (ps_set (i := 1) nd rfl (.inl rfl) (pe_lst (pa_cons (pe_lst pa_nil) pa_nil))))
      (psst_cons (pst_for PassesOwn.never rfl (pit_list (pet_split (CwR.pet_replT (CwR.pet_replC (pv 0))) pe_str)) (pg_name (i := 2) nd rfl (.inl rfl))
      (pss_one (ps_if (pt_cmpR op_eq (pv 2) pe_str (nomark _))
      (pss_one (ps_expr (pe_bm PySem.F.plainAttrs_list PySem.F.slot_list_append PySem.F.type_list_append mt_append (pv 1) (pa_cons (pe_lst pa_nil) pa_nil))))
      (pss_one (ps_if (pt_cmpR op_eq (pv 2) pe_str (nomark _))
      (pss_cons (ps_set (i := 3) nd rfl (.inl rfl) (pe_bm0 PySem.F.plainAttrs_list PySem.F.slot_list_pop PySem.F.type_list_pop mt_pop (pv 1)))
      (pss_one (ps_expr (pe_bm PySem.F.plainAttrs_list PySem.F.slot_list_append PySem.F.type_list_append mt_append (pe_ix ix_list (pv 1) (pe_un un_neg pe_int) (fun _ _ => rfl)) (pa_cons (pe_callTy call_tuple_of (by rfl) B.tuple (by decide +kernel) (pa_cons (pv 3) pa_nil)) pa_nil)))))
      (pss_one (ps_expr (pe_bm PySem.F.plainAttrs_list PySem.F.slot_list_append PySem.F.type_list_append mt_append (pe_ix ix_list (pv 1) (pe_un un_neg pe_int) (fun _ _ => rfl)) (pa_cons (pe_callTy call_int_str (by rfl) B.int (by decide +kernel) (pa_cons (pv 2) pa_nil)) pa_nil)))))))))
      (PSsT.of (pss_one (ps_ret (pe_ix ix_list (pe_ix ix_list (pv 1) pe_int (fun _ _ => rfl)) pe_int (fun _ _ => rfl))))))), ?_⟩
    have p1 : TL.tl (Str.ofString "(") = [40] := by decide +kernel
    have p2 : TL.tl (Str.ofString ")") = [41] := by decide +kernel
    have p3 : TL.tl (Str.ofString "( ") = [40, 32] := by decide +kernel
    have p4 : TL.tl (Str.ofString " )") = [32, 41] := by decide +kernel
    have v1 : TL.tl (Str.ofString " ") = [32] := by decide +kernel
    have v2 : (Str.ofString " ").cps.all (· < 256) = true := by decide +kernel
    have v3 : ((Str.ofString " ").length == 0) = false := by decide +kernel
    have l2 : (Str.ofString "( ").length = 2 := by decide +kernel
    have l4 : (Str.ofString " )").length = 2 := by decide +kernel
    obtain ⟨s2, e2⟩ : ∃ s2, Txt.replace s (Str.ofString "(") (Str.ofString "( ") = s2 := ⟨_, rfl⟩
    obtain ⟨s3, e3⟩ : ∃ s3, Txt.replace s2 (Str.ofString ")") (Str.ofString " )") = s3 := ⟨_, rfl⟩
    have n2 : s2.length ≤ 400000 := by
      have := TK.replace_len s (Str.ofString "(") (Str.ofString "( ")
      rw [e2, l2] at this
      omega
    have n3 : s3.length ≤ 1600000 := by
      have := TK.replace_len s2 (Str.ofString ")") (Str.ofString " )")
      rw [e3, l4] at this
      omega
    have t3 : TL.tl s3 = TL.joinL [32] (toks d) := by
      rw [← tk.txt, ← hs, ← two_repl]
      show s3.cps.toList = _
      rw [← e3, StrLaws.replace_list (by decide +kernel), ← e2, StrLaws.replace_list (by decide +kernel)]
      show StrLaws.replL (TL.tl (Str.ofString ")")) (TL.tl (Str.ofString " )")) (StrLaws.replL (TL.tl (Str.ofString "(")) (TL.tl (Str.ofString "( ")) (TL.tl s)) = _
      rw [p1, p2, p3, p4]
    have sp := split_codes (s := s3) v1 v2 (parts := toks d) tk.ne (fun p hp => (tk.all p hp).free) t3
    obtain ⟨m1, _⟩ := split_ms (s := s3) v1 v2
    -- the stack
    refine ⟨Nat.zero_le _, fun a0 ha0 => ⟨(by show 1 ≤ sizeLine; decide), fun S hS => ?_⟩⟩
    have sA := Sm.new (o := .lst []) ha0
    have hSH : H S = none := Sm.free sA hS
    have ha0' : (upd H a0 (.lst [])) a0 = some (.lst []) := upd_same
    generalize upd H a0 (.lst []) = H1 at sA hS ha0'
    have sS : Sm H1 (upd H1 S (.lst [.ref a0])) := Sm.new hS
    have hS2 : (upd H1 S (.lst [.ref a0])) S = some (.lst ([a0].reverse.map V.ref)) := upd_same
    have a0S : a0 ≠ S := ne_of_none ha0' hS
    have ha2 := sS _ _ ha0'
    have s02 := sA.trans sS
    generalize upd H1 S (.lst [.ref a0]) = H2 at sS hS2 ha2 s02
    refine nx_mk ?_
    refine ⟨.str s, rfl, s, rfl, by rw [l2]; omega, ?_⟩
    rw [e2]
    refine ⟨s2, rfl, by rw [l4]; omega, ?_⟩
    rw [e3]
    refine ⟨⟨_, rfl⟩, s3, _, rfl, rfl, v3, sl_small80 (n := s3.length + 2) (by omega), fun pL hpL => ?_⟩
    have sL : Sm H2 (upd H2 pL (.lst ((Txt.split s3 (Str.ofString " ")).map V.str))) := Sm.new hpL
    have hpLH : H pL = none := Sm.free s02 hpL
    have hpL3 : (upd H2 pL (.lst ((Txt.split s3 (Str.ofString " ")).map V.str))) pL = some (.lst ((Txt.split s3 (Str.ofString " ")).map V.str)) := upd_same
    have nSp : S ≠ pL := ne_of_none hS2 hpL
    have nap : a0 ≠ pL := ne_of_none ha2 hpL
    have hS3 := sL _ _ hS2
    have ha3 := sL _ _ ha2
    have s03 := s02.trans sL
    generalize upd H2 pL (.lst ((Txt.split s3 (Str.ofString " ")).map V.str)) = H3 at sL hpL3 hS3 ha3 s03
    generalize Txt.split s3 (Str.ofString " ") = ws at sp m1 hpL3
    have wl : ws.length = (toks d).length := by
      have := congrArg List.length sp
      rw [List.length_map] at this
      exact this
    have wn := mS_len ws
    refine ⟨pL, rfl, ⟨_, SqL.of hpL3⟩, for_list (xs := ws.map V.str) (fun i σ Hy => ∃ x2 x3 as st, σ = [some (.str s), some (.ref S), x2, x3] ∧ Hy S = some (.lst (as.reverse.map V.ref)) ∧ Lays K Hy as st ∧ (S :: pL :: as).Nodup ∧ as.length ≤ i + 1 ∧ (∀ a ∈ as, H a = none) ∧ (∀ vs a, a ∈ as → Hy a = some (.lst vs) → vs.length ≤ i) ∧ ((toks d).drop i).foldlM stepO st = some [[d]] ∧ Hy pL = some (.lst (ws.map V.str)) ∧ Sm H Hy) ⟨none, none, [a0], [[]], rfl, hS3, .cons ha3 .nil .nil, ?_, Nat.le_refl _, ?_, ?_, tk.run [] [], hpL3, s03⟩ (fun i σ Hy _ hI => ?_) (fun i y σ Hy hy hI => ?_) (fun σ Hy hI => ?_)⟩
    · simp [a0S.symm, nSp, nap.symm]
    · intro a ha
      rw [List.mem_singleton.mp ha]
      exact ha0
    · intro vs a ha e
      rw [List.mem_singleton.mp ha, ha3] at e
      cases e
      exact Nat.le_refl _
    · obtain ⟨_, _, _, _, _, _, _, _, _, _, _, _, h, _⟩ := hI
      exact SqL.of h
    · obtain ⟨x2, x3, as, st, rfl, hSy, hLs, hnd, hla, hfree, hvs, hrun, hpy, sy⟩ := hI
      rw [List.getElem?_map] at hy
      obtain ⟨wd, hw, rfl⟩ := Option.map_eq_some_iff.mp hy
      have hi : i < (toks d).length := by rw [← wl]; exact (List.getElem?_eq_some_iff.mp hw).1
      obtain ⟨tok, htok⟩ : ∃ tok, (toks d)[i]? = some tok := ⟨_, List.getElem?_eq_getElem hi⟩
      have hwt : TL.tl wd = tok := by
        have := congrArg (fun l => l[i]?) sp
        simp only [List.getElem?_map, hw, htok] at this
        exact Option.some.inj this
      have ed : (toks d).drop i = tok :: (toks d).drop (i + 1) := by
        rw [List.drop_eq_getElem_cons hi, (List.getElem?_eq_some_iff.mp htok).2]
      rw [ed, List.foldlM_cons] at hrun
      obtain ⟨st', hst, hrun'⟩ : ∃ st', stepO st tok = some st' ∧ ((toks d).drop (i + 1)).foldlM stepO st' = some [[d]] := by
        cases e : stepO st tok with
        | none => rw [e] at hrun; cases hrun
        | some st' => rw [e] at hrun; exact ⟨st', rfl, hrun⟩
      have hnS : S ∉ as := fun z => (List.nodup_cons.mp hnd).1 (List.mem_cons_of_mem _ z)
      have hnp : pL ∉ as := (List.nodup_cons.mp (List.nodup_cons.mp hnd).2).1
      have hnas := (List.nodup_cons.mp (List.nodup_cons.mp hnd).2).2
      have ilim : i < 1600002 := by omega
      have asl : (as.reverse.map V.ref).length = as.length := by rw [List.length_map, List.length_reverse]
      show _
      have keepW : ∀ {Hz : Hp} {zs : List V}, Sm Hy Hz → (upd Hz S (.lst zs)) pL = some (.lst (ws.map V.str)) := fun sz => by
        rw [upd_ne nSp.symm]
        exact sz _ _ hpy
      refine ⟨.str wd, rfl, rfl, _, rfl, ?_⟩
      by_cases w1 : tok = [40]
      · have e1 : wd = Str.ofString "(" := TL.ext_tl (by rw [hwt, w1, p1])
        rw [e1, decide_eq_true rfl]
        refine iteT ?_
        have hst1 : st' = [] :: st := by
          unfold stepO at hst
          rw [if_pos w1] at hst
          exact (Option.some.inj hst).symm
        refine ⟨.ref S, rfl, .inl ⟨rfl, _, SqL.of hSy⟩, Nat.zero_le _, fun p hp => ?_⟩
        have sp1 : Sm Hy (upd Hy p (.lst [])) := Sm.new hp
        have hpp : (upd Hy p (.lst [])) p = some (.lst []) := upd_same
        have nSpp : S ≠ p := ne_of_none hSy hp
        have nLp : pL ≠ p := ne_of_none hpy hp
        have npas : p ∉ as := fun z => by
          have := hLs.at_ z
          obtain ⟨vs, hvs⟩ := this
          rw [hp] at hvs
          cases hvs
        refine ⟨S, _, _, rfl, rfl, sp1 _ _ hSy, sl_small80 (n := (as.reverse.map V.ref).length + 1) (by rw [asl]; omega), ?_⟩
        refine ⟨_, _, p :: as, st', rfl, ?_, ?_, ?_, ?_, ?_, ?_, hrun', keepW sp1, ?_⟩
        · rw [rev_last]
          exact upd_same
        · rw [hst1]
          refine .cons (by rw [upd_ne nSpp.symm]; exact hpp) .nil ((hLs.same sp1).updL (sp1 _ _ hSy) hnS)
        · simp only [List.nodup_cons, List.mem_cons, not_or]
          exact ⟨⟨nSp, nSpp, hnS⟩, ⟨nLp, hnp⟩, npas, hnas⟩
        · rw [List.length_cons]
          omega
        · intro a ha
          rcases List.mem_cons.mp ha with rfl | ha
          · exact Sm.free sy hp
          · exact hfree a ha
        · intro vs a ha e
          rcases List.mem_cons.mp ha with rfl | ha
          · rw [upd_ne nSpp.symm, hpp] at e
            cases e
            exact Nat.zero_le _
          · have na : a ≠ S := fun z => hnS (z ▸ ha)
            have nap : a ≠ p := fun z => npas (z ▸ ha)
            rw [upd_ne na, upd_ne nap] at e
            exact Nat.le_succ_of_le (hvs vs a ha e)
        · intro cc o e
          rw [upd_ne (ne_of_none e hSH)]
          exact (sy.trans sp1) cc o e
      have e1 : wd ≠ Str.ofString "(" := fun z => w1 (by rw [← hwt, z, p1])
      rw [decide_eq_false (fun z => e1 (V.str.inj z))]
      refine iteF ?_
      refine ⟨.str wd, rfl, rfl, _, rfl, ?_⟩
      by_cases w2 : tok = [41]
      · have e2' : wd = Str.ofString ")" := TL.ext_tl (by rw [hwt, w2, p2])
        rw [e2', decide_eq_true rfl]
        refine iteT ?_
        obtain ⟨inner, top, rest, rfl, rfl⟩ : ∃ inner top rest, st = inner :: top :: rest ∧ st' = (top ++ [.tuple inner]) :: rest := by
          unfold stepO at hst
          rw [if_neg w1, if_pos w2] at hst
          cases st with
          | nil => cases hst
          | cons inner st =>
            cases st with
            | nil => cases hst
            | cons top rest => exact ⟨inner, top, rest, rfl, (Option.some.inj hst).symm⟩
        cases hLs with
        | cons hai gi hLs =>
        cases hLs with
        | cons ha1 g1 hLs =>
        rename_i ai vsi a1 vs1 as2
        rw [rev_last] at hSy
        have n1S : a1 ≠ S := fun z => hnS (by rw [← z]; simp)
        have niS : ai ≠ S := fun z => hnS (by rw [← z]; simp)
        have nS2 : S ∉ as2 := fun z => hnS (by simp [z])
        have nd2 := List.nodup_cons.mp hnas
        have n12 : a1 ∉ as2 := (List.nodup_cons.mp nd2.2).1
        have lvs := hvs vs1 a1 (by simp) ha1
        refine ⟨.ref S, rfl, .inl ⟨rfl, _, SqL.of hSy⟩, S, _, .ref ai, rfl, rfl, hSy, by rw [List.length_append]; show ((a1 :: as2).reverse.map V.ref ++ [V.ref ai])[((a1 :: as2).reverse.map V.ref).length + 1 - 1]? = _; rw [Nat.add_sub_cancel, List.getElem?_append_right (Nat.le_refl _), Nat.sub_self]; rfl, ?_⟩
        rw [List.dropLast_concat]
        have hS5 : (upd Hy S (.lst ((a1 :: as2).reverse.map V.ref))) S = some (.lst ((a1 :: as2).reverse.map V.ref)) := upd_same
        have hai5 : (upd Hy S (.lst ((a1 :: as2).reverse.map V.ref))) ai = some (.lst vsi) := by rw [upd_ne niS]; exact hai
        have ha15 : (upd Hy S (.lst ((a1 :: as2).reverse.map V.ref))) a1 = some (.lst vs1) := by rw [upd_ne n1S]; exact ha1
        have gi5 := da_updL (zs := (a1 :: as2).reverse.map V.ref) hSy gi
        have g15 := da_updL (zs := (a1 :: as2).reverse.map V.ref) hSy g1
        have hL5 := hLs.updL (zs := (a1 :: as2).reverse.map V.ref) hSy nS2
        have hp5 : (upd Hy S (.lst ((a1 :: as2).reverse.map V.ref))) pL = some (.lst (ws.map V.str)) := by rw [upd_ne nSp.symm]; exact hpy
        have sy5 : Sm H (upd Hy S (.lst ((a1 :: as2).reverse.map V.ref))) := fun cc o e => by rw [upd_ne (ne_of_none e hSH)]; exact sy cc o e
        have vs5 : ∀ vs a, a ∈ as2 → (upd Hy S (.lst ((a1 :: as2).reverse.map V.ref))) a = some (.lst vs) → vs.length ≤ i := fun vs a ha e => by
          rw [upd_ne (show a ≠ S from fun z => nS2 (by rw [← z]; exact ha))] at e
          exact hvs vs a (by simp [ha]) e
        generalize upd Hy S (.lst ((a1 :: as2).reverse.map V.ref)) = H5 at hS5 hai5 ha15 gi5 g15 hL5 hp5 sy5 vs5
        refine nx_mk ?_
        have rl : ((a1 :: as2).reverse.map V.ref)[((as2.reverse.map V.ref).length)]? = some (V.ref a1) := by
          rw [rev_last, List.getElem?_append_right (Nat.le_refl _), Nat.sub_self]
          rfl
        have rl2 : ((a1 :: as2).reverse.map V.ref).length = (as2.reverse.map V.ref).length + 1 := by rw [rev_last, List.length_append]; rfl
        refine ⟨.ref S, rfl, 1, rfl, S, _, -1, .ref a1, rfl, rfl, SqL.of hS5, atI_lastN rl2 rl, .inl ⟨rfl, _, SqL.of ha15⟩, .ref ai, rfl, ai, _, rfl, .inl ⟨SqL.of hai5, fun pt hpt => ?_⟩⟩
        have s6 : Sm H5 (upd H5 pt (.tup vsi)) := Sm.new hpt
        have hpt6 : SqT K (upd H5 pt (.tup vsi)) pt vsi := SqT.of upd_same
        have npt : H pt = none := Sm.free sy5 hpt
        generalize upd H5 pt (.tup vsi) = H6 at s6 hpt6
        have ha16 := s6 _ _ ha15
        refine ⟨a1, vs1, _, rfl, rfl, ha16, sl_small80 (n := vs1.length + 1) (by omega), ?_⟩
        refine ⟨_, _, a1 :: as2, _, rfl, ?_, ?_, ?_, ?_, ?_, ?_, hrun', ?_, ?_⟩
        · rw [upd_ne n1S.symm]
          exact s6 _ _ hS5
        · refine .cons upd_same ?_ ((hL5.same s6).updL ha16 n12)
          exact (da_updL ha16 (g15.same s6)).append (.one (.tup (sqT_upd ha16 hpt6) (da_updL ha16 (gi5.same s6))))
        · simp only [List.nodup_cons, List.mem_cons, not_or] at hnd ⊢
          exact ⟨⟨nSp, n1S.symm, nS2⟩, ⟨hnd.2.1.2.1, hnd.2.1.2.2⟩, n12, (List.nodup_cons.mp nd2.2).2⟩
        · simp only [List.length_cons] at hla ⊢
          omega
        · intro a ha
          exact hfree a (List.mem_cons_of_mem _ ha)
        · intro vs a ha e
          rcases List.mem_cons.mp ha with rfl | ha
          · rw [upd_same] at e
            cases e
            rw [List.length_append]
            show vs1.length + 1 ≤ i + 1
            omega
          · rw [upd_ne (show a ≠ a1 from fun z => n12 (by rw [← z]; exact ha))] at e
            obtain ⟨us, hus⟩ := hL5.at_ ha
            have := s6 _ _ hus
            rw [e] at this
            cases this
            exact Nat.le_succ_of_le (vs5 _ a ha hus)
        · rw [upd_ne (fun z => hnp (by rw [z]; simp))]
          exact s6 _ _ hp5
        · intro cc o e
          rw [upd_ne (ne_of_none e (hfree a1 (by simp)))]
          exact (sy5.trans s6) cc o e
      have e2' : wd ≠ Str.ofString ")" := fun z => w2 (by rw [← hwt, z, p2])
      rw [decide_eq_false (fun z => e2' (V.str.inj z))]
      refine iteF ?_
      obtain ⟨n, n0, n13, hn⟩ : ∃ n : Int, 0 ≤ n ∧ n < 10000000000000 ∧ tok = numI n := by
        rcases tk.all tok (List.mem_of_getElem? htok) with z | z | z
        · exact absurd z w1
        · exact absurd z w2
        · exact z
      obtain ⟨_, _, _, f4, f5, _⟩ := num_facts (s := wd) n0 n13 (by rw [hwt, hn])
      cases st with
      | nil =>
        unfold stepO at hst
        rw [if_neg w1, if_neg w2] at hst
        cases hst
      | cons top rest =>
      have hst1 : st' = (top ++ [.int n]) :: rest := by
        rw [hn, step_num n0] at hst
        exact (Option.some.inj hst).symm
      cases hLs with
      | cons ha1 g1 hLs =>
      rename_i a1 vs1 as2
      have n1S : a1 ≠ S := fun z => hnS (by rw [← z]; simp)
      have n12 : a1 ∉ as2 := (List.nodup_cons.mp hnas).1
      have lvs := hvs vs1 a1 (by simp) ha1
      have rl : ((a1 :: as2).reverse.map V.ref)[((as2.reverse.map V.ref).length)]? = some (V.ref a1) := by
        rw [rev_last, List.getElem?_append_right (Nat.le_refl _), Nat.sub_self]
        rfl
      have rl2 : ((a1 :: as2).reverse.map V.ref).length = (as2.reverse.map V.ref).length + 1 := by rw [rev_last, List.length_append]; rfl
      refine ⟨.ref S, rfl, 1, rfl, S, _, -1, .ref a1, rfl, rfl, SqL.of hSy, atI_lastN rl2 rl, .inl ⟨rfl, _, SqL.of ha1⟩, .str wd, rfl, wd, n, rfl, f5, by omega, a1, vs1, _, rfl, rfl, ha1, sl_small80 (n := vs1.length + 1) (by omega), ?_⟩
      refine ⟨_, _, a1 :: as2, st', rfl, ?_, ?_, hnd, by omega, hfree, ?_, hrun', ?_, ?_⟩
      · rw [upd_ne n1S.symm]
        exact hSy
      · rw [hst1]
        exact .cons upd_same ((da_updL ha1 g1).append (.one (.int n))) (hLs.updL ha1 n12)
      · intro vs a ha e
        rcases List.mem_cons.mp ha with rfl | ha
        · rw [upd_same] at e
          cases e
          rw [List.length_append]
          show vs1.length + 1 ≤ i + 1
          omega
        · rw [upd_ne (show a ≠ a1 from fun z => n12 (by rw [← z]; exact ha))] at e
          exact Nat.le_succ_of_le (hvs vs a (List.mem_cons_of_mem _ ha) e)
      · rw [upd_ne (fun z => hnp (by rw [z]; simp))]
        exact hpy
      · intro cc o e
        rw [upd_ne (ne_of_none e (hfree a1 (by simp)))]
        exact sy cc o e
    · obtain ⟨x2, x3, as, st, rfl, hSy, hLs, hnd, hla, hfree, hvs, hrun, hpy, sy⟩ := hI
      rw [List.length_map, wl, List.drop_length] at hrun
      obtain rfl : st = [[d]] := Option.some.inj hrun
      cases hLs with
      | cons h1 h2 h3 =>
        cases h3
        cases h2 with
        | cons g1 g2 =>
          cases g2
          show _
          refine ⟨.ref S, rfl, S, _, 0, _, rfl, rfl, SqL.of hSy, atI_nat (j := 0) rfl, _, _, 0, _, rfl, rfl, SqL.of h1, atI_nat (j := 0) rfl, q _ _ sy g1⟩
end
section
variable {P : Program} {w : World} {K : PySem.W.Frag} {mg : Str → Option Value} {base : Heap}
/-! ### the program: levels, pairs, three items -/
def sp_lb (K : PySem.W.Frag) : Sp := fun vs H Q _ => ∃ (tv : V) (t : List (List Int)) (i j : Nat), vs = [tv, .int (i : Int), .int (j : Int)] ∧ TT K H tv t ∧ WT t ∧ i < t.length ∧ j < t.length ∧ Q (.int (lev t i j)) H
theorem ok_lb {f : Addr} {fd : FuncData} {k : Nat} (F : Fun K "level_between" "level_between" s_level_between f fd) (B : Bi mg) : FnOk P w K mg base CX0 (k + 1) f fd ["table", "one", "other"] (sp_lb K) := by
  refine F.ok sc_level_between (fun vs H Q E h => ?_) (fun cdv A outer s H vs Q E hr h => ?_)
  · obtain ⟨tv, t, i, j, rfl, _⟩ := h
    rfl
  · obtain ⟨tv, t, i, j, rfl, ⟨tp, rs, rfl, htp, hR⟩, hW, hi, hj, q⟩ := h
    refine ⟨_, pss_cons (ps_if (pt_cmpR op_eq (pv 1) (pv 2) (nomark _)) (pss_one (ps_ret pe_int)) pss_nil)
      (pss_one (ps_ret (pe_ix ix_tup (pe_ix ix_tup (pv 0) (pe_callB (call_max2 rfl) (by rfl) B.max (by decide +kernel) (pa_cons (pv 1) (pa_cons (pv 2) pa_nil))) (fun _ _ => rfl)) (pe_callB (call_min2 rfl) (by rfl) B.min (by decide +kernel) (pa_cons (pv 1) (pa_cons (pv 2) pa_nil))) (fun _ _ => rfl)))), ?_⟩
    refine ⟨.int (i : Int), rfl, .int (j : Int), rfl, rfl, _, rfl, ite2 (fun e => ?_) (fun e => ?_)⟩
    · have e1 : (i : Int) = (j : Int) := V.int.inj (of_decide_eq_true e)
      have e2 : i = j := by omega
      have e3 : lev t i j = 0 := by unfold lev; rw [if_pos e2]
      rw [e3] at q
      exact q
    · have e2 : i ≠ j := fun z => e (decide_eq_true (by rw [z]))
      have hm : max i j < t.length := by omega
      obtain ⟨v, p, hv, rfl, hp⟩ := hR.get hm
      obtain ⟨l1, l2⟩ := hW.row hm
      have hl : min i j < (t.getD (max i j) []).length := by omega
      have e3 : lev t i j = (t.getD (max i j) []).getD (min i j) 0 := by unfold lev; rw [if_neg e2]
      rw [e3] at q
      refine ⟨.ref tp, rfl, .int (i : Int), rfl, .int (j : Int), rfl, _, _, rfl, tp, rs, _, _, rfl, rfl, htp, by rw [max_nat]; exact atI_nat hv, .int (i : Int), rfl, .int (j : Int), rfl, _, _, rfl, p, _, _, _, rfl, rfl, hp, by rw [min_nat]; exact atI_nat (map_at (getD_at hl)), q⟩
end
/-! ### the program: squares of levels -/
def lcScope : Expr → Scope
  | .ListComp _ _ sc _ => sc
  | _ => default
def argE : Expr → Expr
  | .Call _ (a :: _) _ _ => a
  | e => e
def stE : Stmt → Expr
  | .Return (some e) _ => e
  | .Assign _ e _ => e
  | .Expr e _ => e
  | _ => .Name "" ⟨0, 0, 0, 0⟩
def forB : Stmt → List Stmt
  | .For _ _ b _ _ => b
  | .If _ b _ _ => b
  | _ => []
def stAt (b : List Stmt) (i : Nat) : Stmt := b.getD i (.Pass ⟨0, 0, 0, 0⟩)
section
variable {P : Program} {w : World} {K : PySem.W.Frag} {mg : Str → Option Value} {base : Heap}
def sp_lgrid (K : PySem.W.Frag) : Sp := fun vs H Q _ => ∃ (tv : V) (t : List (List Int)), vs = [tv] ∧ TT K H tv t ∧ WT t ∧ t.length ≤ 20 ∧
  ∀ (H' : Hp) (o : Addr) (ps : List Addr), Sm H H' → H o = none → (∀ p ∈ ps, H p = none) → H' o = some (.lst (ps.map V.ref)) → Rws H' ps (sqr (lev t) t.length) → Q (.ref o) H'
theorem ok_lgrid {f fL : Addr} {fd fdL : FuncData} (F : Fun K "level_grid" "level_grid" s_level_grid f fd) (DL : Df K mg "level_between" s_level_between fL fdL ["table", "one", "other"]) (B : Bi mg) : FnOk P w K mg base CX0 2 f fd ["table"] (sp_lgrid K) := by
  have GL : FnOk P w K mg base CX0 1 fL fdL ["table", "one", "other"] (sp_lb K) := ok_lb DL.F B
  refine F.ok sc_level_grid (fun vs H Q E h => ?_) (fun cdv A outer s H vs Q E hr h => ?_)
  · obtain ⟨tv, t, rfl, _⟩ := h
    rfl
  · obtain ⟨tv, t, rfl, hT, hW, h20, q⟩ := h
    have nd := sc_level_grid.nd
    refine ⟨_, pss_cons (ps_set (i := 1) nd rfl (.inr rfl) (pe_len B (pv 0)))
      (pss_one (ps_ret (pe_lc (own := [("one", 2)]) (g := gName 2) (tt := tYes) rfl nd (pi_range1 rfl B.range (pa_cons (pv 1) pa_nil)) (blkOk_by (N := N_level_grid) (sc := defScope s_level_grid) (by decide +kernel))
        (fun _ _ _ _ _ => pg_name (i := 2) nd rfl (.inr rfl)) (fun _ _ _ _ _ => pts_nil)
        (fun _ _ _ _ _ => pe_lc (own := [("other", 3)]) (g := gName 3) (tt := tYes) rfl nd (pi_range1 rfl B.range (pa_cons (pv 1) pa_nil)) (blkOk_by (N := N_level_grid) (sc := relS (lcScope (stE (stAt (defBody s_level_grid) 1))) (defScope s_level_grid)) (by decide +kernel))
          (fun _ _ _ _ _ => pg_name (i := 3) nd rfl (.inl rfl)) (fun _ _ _ _ _ => pts_nil)
          (fun _ _ _ _ _ => pe_cl DL GL hr (pa_cons (pv 0) (pa_cons (pv 2) (pa_cons (pv 3) pa_nil)))))))), ?_⟩
    obtain ⟨tp, rs, rfl, htp, hR⟩ := id hT
    have hrl := hR.1
    obtain ⟨n, hn⟩ : ∃ n, n = t.length := ⟨_, rfl⟩
    refine ⟨.ref tp, rfl, tp, rs, rfl, .inr htp, ?_⟩
    have en : (rs.length : Int).toNat = n := by omega
    refine ⟨.int (rs.length : Int), rfl, _, rfl, by omega, by omega, fun D hDn => lc_range (n := (rs.length : Int).toNat) (fun i Hx => ∃ ps : List Addr, Hx D = some (.lst (ps.map V.ref)) ∧ Rws Hx ps ((sqr (lev t) n).take i) ∧ (∀ p ∈ ps, H p = none) ∧ Sm H Hx) ⟨[], upd_same, by rw [List.take_zero]; exact Rws.nil, fun p hp => by simp at hp, Sm.new hDn⟩ (fun i Hx hi hP => ?_) (fun Hx hP => ?_)⟩
    · obtain ⟨ps, h1, h2, h3, h4⟩ := hP
      have hin : i < n := by omega
      refine ⟨rfl, .int (rs.length : Int), rfl, _, rfl, by omega, by omega, fun D2 hD2 => lc_range (n := (rs.length : Int).toNat) (fun j Hy => Hy D2 = some (.lst (((List.range j).map (lev t i)).map V.int)) ∧ Sm Hx Hy) ⟨upd_same, Sm.new hD2⟩ (fun j Hy hj hP => ?_) (fun Hy hP => ?_)⟩
      · obtain ⟨g1, g2⟩ := hP
        refine ⟨rfl, .ref tp, rfl, .int (0 + (i : Int)), rfl, .int (0 + (j : Int)), rfl, .ref tp, t, i, j, by rw [Int.zero_add, Int.zero_add]; rfl, hT.same (h4.trans g2), hW, by omega, by omega, _, g1, ?_, ?_, ?_⟩
        · rw [List.length_map, List.length_map, List.length_range]
          exact small1000 (by omega)
        · rw [upd_same, range_map_succ, List.map_append]
          rfl
        · intro b u e
          rw [upd_ne (ne_of_none e hD2)]
          exact g2 b u e
      · obtain ⟨g1, g2⟩ := hP
        rw [en] at g1
        have hl := h2.1
        rw [List.length_take, sqr_len] at hl
        have h1y := g2 _ _ h1
        have R1 := (h2.same g2).snoc (h2.not_mem hD2) g1
        have DD : D ∉ ps ++ [D2] := by
          intro hm
          rcases List.mem_append.mp hm with hm | hm
          · exact h2.outer h1 hm
          · rw [List.mem_singleton.mp hm] at h1
            rw [hD2] at h1
            cases h1
        refine ⟨_, h1y, ?_, ps ++ [D2], ?_, ?_, ?_, ?_⟩
        · rw [List.length_map]
          exact small1000 (by omega)
        · rw [upd_same, List.map_append]
          rfl
        · rw [sqr_take _ hin]
          exact R1.upd DD
        · intro p hp
          rcases List.mem_append.mp hp with hp | hp
          · exact h3 p hp
          · rw [List.mem_singleton.mp hp]
            exact h4.free hD2
        · intro b u e
          rw [upd_ne (ne_of_none e hDn)]
          exact g2 _ _ (h4 b u e)
    · obtain ⟨ps, h1, h2, h3, h4⟩ := hP
      rw [List.take_of_length_le (by rw [sqr_len]; omega)] at h2
      exact q Hx D ps h4 hDn h3 h1 (hn ▸ h2)
end
section
variable {P : Program} {w : World} {K : PySem.W.Frag} {mg : Str → Option Value} {base : Heap}
/-! ### the program: lowest heights -/
abbrev rMn : List V → Hp → VK → Prop := fun xs H Q => ∃ i j, xs = [.int i, .int j] ∧ Q (.int (if j < i then j else i)) H
abbrev rMx : List V → Hp → VK → Prop := fun xs H Q => ∃ i j, xs = [.int i, .int j] ∧ Q (.int (if j > i then j else i)) H
theorem mnmx (a b c : Int) : (if (if c > b then c else b) < a then (if c > b then c else b) else a) = min a (max b c) := by
  split <;> split at * <;> omega
def sp_low (K : PySem.W.Frag) : Sp := fun vs H Q _ => ∃ (o : Addr) (ps : List Addr) (f : Nat → Nat → Int) (n : Nat), vs = [.ref o] ∧ H o = some (.lst (ps.map V.ref)) ∧ Rws H ps (sqr f n) ∧ n ≤ 20 ∧
  ∀ (H' : Hp) (o' : Addr) (ps' : List Addr), Sm H H' → H' o' = some (.lst (ps'.map V.ref)) → Rws H' ps' (sqr (fw f n) n) → Q (.ref o') H'
theorem ok_low {f : Addr} {fd : FuncData} {k : Nat} (F : Fun K "lowest_grid" "lowest_grid" s_lowest_grid f fd) (B : Bi mg) : FnOk P w K mg base CX0 (k + 1) f fd ["grid"] (sp_low K) := by
  refine F.ok sc_lowest_grid (fun vs H Q E h => ?_) (fun cdv A outer s H vs Q E hr h => ?_)
  · obtain ⟨o, ps, g, n, rfl, _⟩ := h
    rfl
  · obtain ⟨o, ps, g, n, rfl, ho, hR, h20, q⟩ := h
    have nd := sc_lowest_grid.nd
    refine ⟨_, pss_cons (ps_set (i := 1) nd rfl (.inl rfl) (pv 0))
      (pss_cons (ps_for PassesOwn.never rfl (pi_range1 rfl B.range (pa_cons (pe_len B (pv 0)) pa_nil)) (pg_name (i := 2) nd rfl (.inr rfl))
        (pss_cons (ps_set (i := 3) nd rfl (.inr rfl) (pe_ix ix_list (pv 1) (pv 2) (fun _ _ => rfl)))
        (pss_one (ps_setLc (i := 1) (own := [("row", 4)]) (g := gName 4) (tt := tYes) rfl nd rfl rfl (sw_true rfl rfl rfl (by decide +kernel)) (pi_list (pv 1)) (blkOk_by (N := N_lowest_grid) (sc := defScope s_lowest_grid) (by decide +kernel))
          (fun _ _ _ _ _ => pg_name (i := 4) nd rfl (.inr rfl)) (fun _ _ _ _ _ => pts_nil)
          (te := tLc (iZip K (tCons (tVar 4) (tCons (tVar 3) tNil))) (gTup K 2 (gCons (gName 5) (gCons (gName 6) gNil))) tYes (tCB rMn (tCons (tVar 5) (tCons (tCB rMx (tCons (tOp (rIxL K) (tVar 4) (tVar 2)) (tCons (tVar 6) tNil))) tNil))) [5, 6])
          (fun _ _ _ _ _ => pe_lc (own := [("direct", 5), ("step", 6)]) (g := gTup K 2 (gCons (gName 5) (gCons (gName 6) gNil))) (tt := tYes) rfl nd (pi_zip (by rfl) B.zip (pa_cons (pv 4) (pa_cons (pv 3) pa_nil))) (blkOk_by (N := N_lowest_grid) (sc := relS (lcScope (stE (stAt (forB (stAt (defBody s_lowest_grid) 1)) 1))) (defScope s_lowest_grid)) (by decide +kernel))
            (fun _ _ _ _ _ => pg_tup rfl (pgs_cons (pg_name (i := 5) nd rfl (.inl rfl)) (pgs_cons (pg_name (i := 6) nd rfl (.inl rfl)) pgs_nil))) (fun _ _ _ _ _ => pts_nil)
            (fun _ _ _ _ _ => pe_callB (call_min2 rfl) (by rfl) B.min (by decide +kernel) (pa_cons (pv 5) (pa_cons (pe_callB (call_max2 rfl) (by rfl) B.max (by decide +kernel) (pa_cons (pe_ix ix_list (pv 4) (pv 2) (fun _ _ => rfl)) (pa_cons (pv 6) pa_nil))) pa_nil))))))))
      (pss_one (ps_ret (pv 1)))), ?_⟩
    have hl := hR.1
    rw [sqr_len] at hl
    refine ⟨.ref o, rfl, .ref o, rfl, o, _, rfl, .inl (SqL.of ho), _, rfl, by omega, by rw [List.length_map]; omega, ?_⟩
    have en : ((ps.map V.ref).length : Int).toNat = n := by rw [List.length_map]; omega
    rw [en]
    refine for_range (n := n) (fun m σ Hx => ∃ x2 x3 lo qs, σ = [some (.ref o), some (.ref lo), x2, x3, none, none, none] ∧ Hx lo = some (.lst (qs.map V.ref)) ∧ Rws Hx qs (sqr (fw g m) n) ∧ Sm H Hx) ⟨none, none, o, ps, rfl, ho, hR, Sm.refl _⟩ (fun m σ Hx hm hI => ?_) (fun σ Hx hI => ?_)
    · obtain ⟨x2, x3, lo, qs, rfl, hlo, hQ, sx⟩ := hI
      have hql := hQ.1
      rw [sqr_len] at hql
      obtain ⟨mp, hmp, hmr⟩ := hQ.get (i := m) (by rw [sqr_len]; exact hm)
      rw [sqr_row _ hm] at hmr
      show _
      refine ⟨.ref lo, rfl, .int (0 + (m : Int)), rfl, lo, _, _, _, rfl, rfl, SqL.of hlo, by rw [Int.zero_add]; exact atI_nat (refs_at hmp), ?_⟩
      refine ⟨.ref lo, rfl, lo, rfl, ⟨_, SqL.of hlo⟩, fun D hDn => lc_list (xs := qs.map V.ref) (fun i Hy => ∃ rs : List Addr, Hy D = some (.lst (rs.map V.ref)) ∧ Rws Hy rs ((sqr (fw g (m + 1)) n).take i) ∧ Sm Hx Hy) ⟨[], upd_same, by rw [List.take_zero]; exact Rws.nil, Sm.new hDn⟩ (fun i Hy _ hP => ?_) (fun i v Hy hv hP => ?_) (fun Hy hP => ?_)⟩
      · obtain ⟨_, _, _, sy⟩ := hP
        exact SqL.of (sy _ _ hlo)
      · obtain ⟨rs, h1, h2, sy⟩ := hP
        have hi : i < n := by
          have := (List.getElem?_eq_some_iff.mp hv).1
          rw [List.length_map] at this
          omega
        obtain ⟨ip, hip, hir⟩ := hQ.get (i := i) (by rw [sqr_len]; exact hi)
        rw [sqr_row _ hi] at hir
        obtain rfl : v = .ref ip := Option.some.inj (hv.symm.trans (refs_at hip))
        have hiy := sy _ _ hir
        have hmy := sy _ _ hmr
        refine ⟨rfl, .ref ip, rfl, .ref mp, rfl, ip, mp, _, _, rfl, SqL.of hiy, SqL.of hmy, fun D2 hD2 => lc_zipL (n := n) (xs := ((List.range n).map (fw g m i)).map V.int) (ys := ((List.range n).map (fw g m m)).map V.int) (by simp) (fun j Hz => Hz D2 = some (.lst (((List.range j).map (fw g (m + 1) i)).map V.int)) ∧ Sm Hy Hz) ⟨upd_same, Sm.new hD2⟩ (fun j Hz _ hP => ?_) (fun j x y T Hz hx hy hP hT => ?_) (fun Hz hP => ?_)⟩
        · exact ⟨SqL.of (hP.2 _ _ hiy), SqL.of (hP.2 _ _ hmy)⟩
        · obtain ⟨g1, g2⟩ := hP
          have hj : j < n := by
            have := (List.getElem?_eq_some_iff.mp hx).1
            simpa using this
          obtain rfl : x = .int (fw g m i j) := Option.some.inj (hx.symm.trans (range_at _ hj))
          obtain rfl : y = .int (fw g m m j) := Option.some.inj (hy.symm.trans (range_at _ hj))
          have sT : Sm Hz (upd Hz T (.tup [.int (fw g m i j), .int (fw g m m j)])) := Sm.new hT
          refine ⟨T, _, rfl, SqT.of upd_same, rfl, _, _, rfl, _, _, rfl, rfl, rfl, ?_⟩
          refine ⟨.int (fw g m i j), rfl, .ref ip, rfl, .int (0 + (m : Int)), rfl, ip, _, _, _, rfl, rfl, SqL.of (sT _ _ (g2 _ _ hiy)), by rw [Int.zero_add]; exact atI_nat (range_at _ hm), .int (fw g m m j), rfl, _, _, rfl, _, _, rfl, _, sT _ _ g1, ?_, ?_, ?_⟩
          · rw [List.length_map, List.length_map, List.length_range]
            exact small1000 (by omega)
          · rw [upd_same, range_map_succ, List.map_append, mnmx]
            rfl
          · intro b u e
            rw [upd_ne (ne_of_none e hD2)]
            exact sT _ _ (g2 b u e)
        · obtain ⟨g1, g2⟩ := hP
          have hl2 := h2.1
          rw [List.length_take, sqr_len] at hl2
          have R1 := (h2.same g2).snoc (h2.not_mem hD2) g1
          have DD : D ∉ rs ++ [D2] := by
            intro hm
            rcases List.mem_append.mp hm with hm | hm
            · exact h2.outer h1 hm
            · rw [List.mem_singleton.mp hm] at h1
              rw [hD2] at h1
              cases h1
          refine ⟨_, g2 _ _ h1, ?_, rs ++ [D2], ?_, ?_, ?_⟩
          · rw [List.length_map]
            exact small1000 (by omega)
          · rw [upd_same, List.map_append]
            rfl
          · rw [sqr_take _ hi]
            exact R1.upd DD
          · intro b u e
            rw [upd_ne (ne_of_none e hDn)]
            exact g2 _ _ (sy b u e)
      · obtain ⟨rs, h1, h2, sy⟩ := hP
        rw [List.take_of_length_le (by rw [sqr_len, List.length_map]; omega)] at h2
        exact ⟨_, _, D, rs, rfl, h1, h2, sx.trans sy⟩
    · obtain ⟨x2, x3, lo, qs, rfl, hlo, hQ, sx⟩ := hI
      exact ⟨_, rfl, q Hx lo qs sx hlo hQ⟩
end
section
variable {P : Program} {w : World} {K : PySem.W.Frag} {mg : Str → Option Value} {base : Heap}
/-! ### the program: joining levels -/
structure GridDefs (K : PySem.W.Frag) (mg : Str → Option Value) : Prop where
  B : Bi mg
  lb : ∃ f fd, Df K mg "level_between" s_level_between f fd ["table", "one", "other"]
  lgrid : ∃ f fd, Df K mg "level_grid" s_level_grid f fd ["table"]
  low : ∃ f fd, Df K mg "lowest_grid" s_lowest_grid f fd ["grid"]
  jgrid : ∃ f fd, Df K mg "join_grid" s_join_grid f fd ["table"]
def sp_jgrid (K : PySem.W.Frag) : Sp := fun vs H Q _ => ∃ (tv : V) (t : List (List Int)), vs = [tv] ∧ TT K H tv t ∧ WT t ∧ t.length ≤ 20 ∧
  ∀ (H' : Hp) (o : Addr) (ps : List Addr), Sm H H' → H' o = some (.lst (ps.map V.ref)) → Rws H' ps (sqr (jn t) t.length) → Q (.ref o) H'
theorem ok_jgrid {f : Addr} {fd : FuncData} (F : Fun K "join_grid" "join_grid" s_join_grid f fd) (T : GridDefs K mg) : FnOk P w K mg base CX0 3 f fd ["table"] (sp_jgrid K) := by
  have B := T.B
  obtain ⟨fL, fdL, DL⟩ := T.lb
  obtain ⟨fG, fdG, DG⟩ := T.lgrid
  obtain ⟨fW, fdW, DW⟩ := T.low
  have GG : FnOk P w K mg base CX0 2 fG fdG ["table"] (sp_lgrid K) := ok_lgrid DG.F DL B
  have GW : FnOk P w K mg base CX0 2 fW fdW ["grid"] (sp_low K) := ok_low DW.F B
  refine F.ok sc_join_grid (fun vs H Q E h => ?_) (fun cdv A outer s H vs Q E hr h => ?_)
  · obtain ⟨tv, t, rfl, _⟩ := h
    rfl
  · obtain ⟨tv, t, rfl, hT, hW, h20, q⟩ := h
    refine ⟨_, pss_one (ps_ret (pe_cl DW GW hr (pa_cons (pe_cl DG GG hr (pa_cons (pv 0) pa_nil)) pa_nil))), ?_⟩
    exact ⟨tv, rfl, tv, t, rfl, hT, hW, h20, fun H1 o1 ps1 s1 _ _ ho1 hR1 => ⟨o1, ps1, lev t, t.length, rfl, ho1, hR1, h20, fun H2 o2 ps2 s2 ho2 hR2 => q H2 o2 ps2 (s1.trans s2) ho2 hR2⟩⟩
end
/-! ### tuple() -/
abbrev rTup (K : PySem.W.Frag) : List V → Hp → VK → Prop := fun xs H Q => ∃ p ys, xs = [.ref p] ∧ ((SqL K H p ys ∧ ∀ l, H l = none → Q (.ref l) (upd H l (.tup ys))) ∨ (SqT K H p ys ∧ Q (.ref p) H))
section
variable {P : Program} {w : World} {K : PySem.W.Frag} {mg : Str → Option Value} {base : Heap}
/-! ### the program: the nested table below -/
def sp_below (K : PySem.W.Frag) : Sp := fun vs H Q _ => ∃ (tv : V) (t : List (List Int)), vs = [tv] ∧ TT K H tv t ∧ WT t ∧ t.length ≤ 20 ∧ ∀ (H' : Hp) (v : V), Sm H H' → TT K H' v (jtab t) → Q v H'
theorem take_range (f : Nat → Int) {i n : Nat} (h : i ≤ n) : (((List.range n).map f).map V.int).take i = ((List.range i).map f).map V.int := by
  rw [← List.map_take, ← List.map_take, List.take_range, Nat.min_eq_left h]
theorem ok_below {f : Addr} {fd : FuncData} (F : Fun K "nested_below" "nested_below" s_nested_below f fd) (T : GridDefs K mg) : FnOk P w K mg base CX0 4 f fd ["table"] (sp_below K) := by
  have B := T.B
  obtain ⟨fJ, fdJ, DJ⟩ := T.jgrid
  have GJ : FnOk P w K mg base CX0 3 fJ fdJ ["table"] (sp_jgrid K) := ok_jgrid DJ.F T
  refine F.ok sc_nested_below (fun vs H Q E h => ?_) (fun cdv A outer s H vs Q E hr h => ?_)
  · obtain ⟨tv, t, rfl, _⟩ := h
    rfl
  · obtain ⟨tv, t, rfl, hT, hW, h20, q⟩ := h
    have nd := sc_nested_below.nd
    refine ⟨_, pss_one (ps_ret (pe_callTy call_tuple_of (by rfl) B.tuple (by decide +kernel) (pa_cons
      (pe_lc (own := [("at", 1), ("row", 2)]) (g := gTup K 2 (gCons (gName 1) (gCons (gName 2) gNil))) (tt := tYes) rfl nd (pi_enum (by rfl) B.enumerate (pa_cons (pe_cl DJ GJ hr (pa_cons (pv 0) pa_nil)) pa_nil)) (blkOk_by (N := N_nested_below) (sc := defScope s_nested_below) (by decide +kernel))
        (fun _ _ _ _ _ => pg_tup rfl (pgs_cons (pg_name (i := 1) nd rfl (.inl rfl)) (pgs_cons (pg_name (i := 2) nd rfl (.inl rfl)) pgs_nil))) (fun _ _ _ _ _ => pts_nil)
        (te := tCB (rTup K) (tCons (tSl (rSlL K) (tVar 2) tNoPart (tPart (tVar 1))) tNil))
        (fun _ _ _ _ _ => pe_callTy call_tuple_of (by rfl) B.tuple (by decide +kernel) (pa_cons (pe_slice sl_list (pv 2) po_none (po_some (pv 1))) pa_nil))) pa_nil))), ?_⟩
    refine ⟨tv, rfl, tv, t, rfl, hT, hW, h20, fun H1 o ps s1 ho hR => ?_⟩
    obtain ⟨n, hn⟩ : ∃ n, n = t.length := ⟨_, rfl⟩
    rw [← hn] at hR
    have hpl := hR.1
    rw [sqr_len] at hpl
    refine ⟨o, _, rfl, SqL.of ho, fun D hDn => lc_enumL (xs := ps.map V.ref) (fun i Hx => ∃ xs, Hx D = some (.lst xs) ∧ Rows K Hx xs ((tri (jn t) n).take i) ∧ Sm H1 Hx) ⟨[], upd_same, by rw [List.take_zero]; exact Rows.nil, Sm.new hDn⟩ (fun i Hx _ hP => ?_) (fun i x Tq Hx hx hP hTq => ?_) (fun Hx hP => ?_)⟩
    · obtain ⟨_, _, _, sx⟩ := hP
      exact SqL.of (sx _ _ ho)
    · obtain ⟨xs, k1, k2, sx⟩ := hP
      have hi : i < n := by
        have := (List.getElem?_eq_some_iff.mp hx).1
        rw [List.length_map] at this
        omega
      obtain ⟨p, hp, hpr⟩ := hR.get (i := i) (by rw [sqr_len]; exact hi)
      rw [sqr_row _ hi] at hpr
      obtain rfl : x = .ref p := Option.some.inj (hx.symm.trans (refs_at hp))
      have sT : Sm Hx (upd Hx Tq (.tup [.int (i : Int), .ref p])) := Sm.new hTq
      refine ⟨Tq, _, rfl, SqT.of upd_same, rfl, _, _, rfl, _, _, rfl, rfl, rfl, ?_⟩
      refine ⟨.ref p, rfl, .int (i : Int), rfl, _, rfl, p, _, rfl, SqL.of (sT _ _ (sx _ _ hpr)), fun sl hsl => ?_⟩
      rw [cut_to, take_range _ (Nat.le_of_lt hi)]
      have sS := sT.trans (Sm.new (o := .lst (((List.range i).map (jn t i)).map V.int)) hsl)
      refine ⟨sl, _, rfl, .inl ⟨SqL.of upd_same, fun l hl => ?_⟩⟩
      have sl' := sS.trans (Sm.new (o := .tup (((List.range i).map (jn t i)).map V.int)) hl)
      have hxl := k2.1
      rw [List.length_take] at hxl
      refine ⟨_, sl' _ _ k1, small1000 (by omega), _, upd_same, ?_, ?_⟩
      · have e : (tri (jn t) n).take (i + 1) = (tri (jn t) n).take i ++ [(List.range i).map (jn t i)] := by
          rw [List.take_add_one, tri_get _ hi]
          rfl
        rw [e]
        exact ((k2.same sl').snoc ⟨l, rfl, SqT.of upd_same⟩).upd (sl' _ _ k1)
      · intro b u e
        rw [upd_ne (ne_of_none e hDn)]
        exact sl' _ _ (sx b u e)
    · obtain ⟨xs, k1, k2, sx⟩ := hP
      rw [List.take_of_length_le (by rw [tri_len, List.length_map]; omega), hn] at k2
      refine ⟨D, _, rfl, .inl ⟨SqL.of k1, fun l hl => ?_⟩⟩
      exact q _ _ ((s1.trans sx).trans (Sm.new hl)) ⟨l, xs, rfl, SqT.of upd_same, k2.same (Sm.new hl)⟩
end
section
variable {P : Program} {w : World} {K : PySem.W.Frag} {mg : Str → Option Value} {base : Heap}
/-! ### the program: the groups at a level -/
structure GroupDefs (K : PySem.W.Frag) (mg : Str → Option Value) : Prop where
  G : GridDefs K mg
  group : ∃ f fd, Df K mg "group_of" s_group_of f fd ["grid", "item", "level"]
  all : ∃ f fd, Df K mg "all_groups" s_all_groups f fd ["grid", "level"]
def sp_group (K : PySem.W.Frag) : Sp := fun vs H Q _ => ∃ (o : Addr) (ps : List Addr) (F : Nat → Nat → Int) (n i : Nat) (l : Int), vs = [.ref o, .int (i : Int), .int l] ∧ H o = some (.lst (ps.map V.ref)) ∧ Rws H ps (sqr F n) ∧ n ≤ 20 ∧ i < n ∧
  ∀ (H' : Hp) (p : Addr), Sm H H' → H' p = some (.tup ((iL (grp F n l i)).map V.int)) → Q (.ref p) H'
theorem ok_group {f : Addr} {fd : FuncData} {k : Nat} (F : Fun K "group_of" "group_of" s_group_of f fd) (B : Bi mg) : FnOk P w K mg base CX0 (k + 1) f fd ["grid", "item", "level"] (sp_group K) := by
  refine F.ok sc_group_of (fun vs H Q E h => ?_) (fun cdv A outer s H vs Q E hr h => ?_)
  · obtain ⟨o, ps, F, n, i, l, rfl, _⟩ := h
    rfl
  · obtain ⟨o, ps, F, n, i, l, rfl, ho, hR, h20, hi, q⟩ := h
    have nd := sc_group_of.nd
    refine ⟨_, pss_one (ps_ret (pe_callTy call_tuple_of (by rfl) B.tuple (by decide +kernel) (pa_cons
      (pe_lc (own := [("other", 3), ("join", 4)]) (g := gTup K 2 (gCons (gName 3) (gCons (gName 4) gNil))) (tt := tTest (tOp (rI0 fun i j => .bl (decide (i ≤ j))) (tVar 4) (tVar 2))) rfl nd (pi_enum (by rfl) B.enumerate (pa_cons (pe_ix ix_list (pv 0) (pv 1) (fun _ _ => rfl)) pa_nil)) (blkOk_by (N := N_group_of) (sc := defScope s_group_of) (by decide +kernel))
        (fun _ _ _ _ _ => pg_tup rfl (pgs_cons (pg_name (i := 3) nd rfl (.inl rfl)) (pgs_cons (pg_name (i := 4) nd rfl (.inl rfl)) pgs_nil)))
        (fun _ _ _ _ _ => pts_one (pt_cmpR op_le (pv 4) (pv 2) (nomark _))) (fun _ _ _ _ _ => pv 3)) pa_nil))), ?_⟩
    obtain ⟨rp, hrp, hrow⟩ := hR.get (i := i) (by rw [sqr_len]; exact hi)
    rw [sqr_row _ hi] at hrow
    refine ⟨.ref o, rfl, .int (i : Int), rfl, o, _, _, _, rfl, rfl, SqL.of ho, atI_nat (refs_at hrp), ?_⟩
    refine ⟨rp, _, rfl, SqL.of hrow, fun D hDn => lc_enumL (xs := ((List.range n).map (F i)).map V.int) (fun j Hx => Hx D = some (.lst ((iL ((List.range j).filter fun j => decide (F i j ≤ l))).map V.int)) ∧ Sm H Hx) ⟨upd_same, Sm.new hDn⟩ (fun j Hx _ hP => SqL.of (hP.2 _ _ hrow)) (fun j x Tq Hx hx hP hTq => ?_) (fun Hx hP => ?_)⟩
    · obtain ⟨k1, sx⟩ := hP
      have hj : j < n := by
        have := (List.getElem?_eq_some_iff.mp hx).1
        simpa using this
      obtain rfl : x = .int (F i j) := Option.some.inj (hx.symm.trans (range_at _ hj))
      have sT : Sm Hx (upd Hx Tq (.tup [.int (j : Int), .int (F i j)])) := Sm.new hTq
      have el : (iL ((List.range (j + 1)).filter fun j => decide (F i j ≤ l))) = iL ((List.range j).filter fun j => decide (F i j ≤ l)) ++ (if F i j ≤ l then [(j : Int)] else []) := by
        rw [List.range_succ, List.filter_append]
        unfold iL
        rw [List.map_append]
        congr 1
        by_cases h : F i j ≤ l <;> simp [h]
      refine ⟨Tq, _, rfl, SqT.of upd_same, rfl, _, _, rfl, _, _, rfl, rfl, rfl, ?_⟩
      refine ⟨.int (F i j), rfl, .int l, rfl, _, _, rfl, rfl, _, rfl, ?_⟩
      by_cases hl : F i j ≤ l
      · rw [decide_eq_true hl]
        refine ⟨.int (j : Int), rfl, _, sT _ _ k1, ?_, ?_, ?_⟩
        · have := List.length_filter_le (fun j => decide (F i j ≤ l)) (List.range j)
          rw [List.length_range] at this
          rw [List.length_map, List.length_map]
          exact small1000 (by omega)
        · rw [upd_same, el, if_pos hl, List.map_append]
          rfl
        · intro b u e
          rw [upd_ne (ne_of_none e hDn)]
          exact sT _ _ (sx b u e)
      · rw [decide_eq_false hl]
        refine ⟨?_, sx.trans sT⟩
        rw [el, if_neg hl, List.append_nil]
        exact sT _ _ k1
    · obtain ⟨k1, sx⟩ := hP
      rw [List.length_map, List.length_map, List.length_range] at k1
      exact ⟨D, _, rfl, .inl ⟨SqL.of k1, fun p hp => q _ p (sx.trans (Sm.new hp)) upd_same⟩⟩
def sp_groups (K : PySem.W.Frag) : Sp := fun vs H Q _ => ∃ (o : Addr) (ps : List Addr) (F : Nat → Nat → Int) (n : Nat) (l : Int), vs = [.ref o, .int l] ∧ H o = some (.lst (ps.map V.ref)) ∧ Rws H ps (sqr F n) ∧ n ≤ 20 ∧ GrF F n l ∧
  ∀ (H' : Hp) (v : V), Sm H H' → TT K H' v ((gsL F n l n).map iL) → Q v H'
theorem ok_groups {f : Addr} {fd : FuncData} (F : Fun K "all_groups" "all_groups" s_all_groups f fd) (T : GroupDefs K mg) : FnOk P w K mg base CX0 2 f fd ["grid", "level"] (sp_groups K) := by
  have B := T.G.B
  obtain ⟨fG, fdG, DG⟩ := T.group
  have GG : FnOk P w K mg base CX0 1 fG fdG ["grid", "item", "level"] (sp_group K) := ok_group DG.F B
  refine F.ok sc_all_groups (fun vs H Q E h => ?_) (fun cdv A outer s H vs Q E hr h => ?_)
  · obtain ⟨o, ps, F, n, l, rfl, _⟩ := h
    rfl
  · obtain ⟨o, ps, F, n, l, rfl, ho, hR, h20, hG, q⟩ := h
    have nd := sc_all_groups.nd
    refine ⟨_, pss_one (ps_ret (pe_callTy call_tuple_of (by rfl) B.tuple (by decide +kernel) (pa_cons (pe_callB (cr_sortU rfl hr.units) (by rfl) B.sorted (by decide +kernel) (pa_cons
      (pe_st (own := [("item", 2)]) (g := gName 2) (tt := tYes) rfl hr.units nd (pi_range1 rfl B.range (pa_cons (pe_len B (pv 0)) pa_nil)) (blkOk_by (N := N_all_groups) (sc := defScope s_all_groups) (by decide +kernel))
        (fun _ _ _ _ _ => pg_name (i := 2) nd rfl (.inl rfl)) (fun _ _ _ _ _ => pts_nil)
        (te := tCall (sp_group K) [] E0 (tCons (tVar 0) (tCons (tVar 2) (tCons (tVar 1) tNil))))
        (fun _ _ _ _ _ => pe_cl DG GG hr (pa_cons (pv 0) (pa_cons (pv 2) (pa_cons (pv 1) pa_nil))))) pa_nil)) pa_nil))), ?_⟩
    have hpl := hR.1
    rw [sqr_len] at hpl
    refine ⟨.ref o, rfl, o, _, rfl, .inl (SqL.of ho), _, rfl, by omega, by rw [List.length_map]; omega, fun D hDn => ?_⟩
    have en : ((ps.map V.ref).length : Int).toNat = n := by rw [List.length_map]; omega
    rw [en]
    refine st_it (n := n) walk_range (fun i Hx => ∃ L : List (Addr × List Int), Hx D = some (SetTO P w D L) ∧ (∀ p ∈ L, SqT K Hx p.1 (p.2.map V.int)) ∧ L.length ≤ i ∧ (∀ p ∈ L, ∃ j, j < n ∧ p.2 = iL (grp F n l j)) ∧ (∀ j, j < i → iL (grp F n l j) ∈ L.map (·.2)) ∧ Sm H Hx) ⟨[], upd_same, fun p hp => by simp at hp, Nat.le_refl _, fun p hp => by simp at hp, fun j hj => by omega, Sm.new hDn⟩ (fun _ _ _ _ => trivial) (fun i x Hx Hx' hi hP hY => ?_) (fun Hx hP => ?_)
    · obtain ⟨rfl, rfl⟩ := hY
      obtain ⟨L, k1, k2, k3, k4, k5, sx⟩ := hP
      refine ⟨rfl, .ref o, rfl, .int (0 + (i : Int)), rfl, .int l, rfl, o, ps, F, n, i, l, by rw [Int.zero_add]; rfl, sx _ _ ho, hR.same sx, h20, hi, fun H1 p s1 hp => ?_⟩
      have sq : SqT K H1 p ((iL (grp F n l i)).map V.int) := SqT.of hp
      refine ⟨p, iL (grp F n l i), L, rfl, sq, s1 _ _ k1, fun z hz => s1.sqT (k2 z hz), by omega, fun L' c1 c2 => ?_⟩
      have keep : Sm H (upd H1 D (SetTO P w D L')) := fun b u e => by
        rw [upd_ne (ne_of_none e hDn)]
        exact s1 _ _ (sx b u e)
      have sqD : ∀ {b : Addr} {xs : List V}, SqT K H1 b xs → SqT K (upd H1 D (SetTO P w D L')) b xs := fun {b xs} h => by
        have kD : H1 D = some (SetTO P w D L) := s1 _ _ k1
        rcases h with (h | ⟨ob, h⟩) | h
        · exact .inl (.inl (by rw [upd_ne (ne_of h kD (by intro z; cases z))]; exact h))
        · exact .inl (.inr ⟨ob, by rw [upd_ne (ne_of h kD (by intro z; cases z))]; exact h⟩)
        · exact .inr h
      by_cases hm : iL (grp F n l i) ∈ L.map (·.2)
      · have e := c1 hm
        subst e
        refine ⟨L', upd_same, fun z hz => sqD (s1.sqT (k2 z hz)), by omega, k4, fun j hj => ?_, keep⟩
        rcases Nat.lt_succ_iff_lt_or_eq.mp hj with h | h
        · exact k5 j h
        · rw [h]; exact hm
      · have pm := c2 hm
        refine ⟨L', upd_same, fun z hz => ?_, by rw [pm.length_eq, List.length_cons]; omega, fun z hz => ?_, fun j hj => ?_, keep⟩
        · rcases List.mem_cons.mp (pm.mem_iff.mp hz) with e | e
          · rw [e]; exact sqD sq
          · exact sqD (s1.sqT (k2 z e))
        · rcases List.mem_cons.mp (pm.mem_iff.mp hz) with e | e
          · rw [e]; exact ⟨i, hi, rfl⟩
          · exact k4 z e
        · have pm2 := pm.map (·.2)
          rw [pm2.mem_iff, List.map_cons]
          rcases Nat.lt_succ_iff_lt_or_eq.mp hj with h | h
          · exact List.mem_cons_of_mem _ (k5 j h)
          · rw [h]; exact List.mem_cons_self
    · obtain ⟨L, k1, k2, k3, k4, k5, sx⟩ := hP
      refine ⟨D, L, rfl, k1, k2, fun z hz e => ?_, fun L' p pm hnd hl srt hp => ?_⟩
      · obtain ⟨j, hj, ej⟩ := k4 z hz
        rw [e] at ej
        have : grp F n l j = [] := by
          cases eg : grp F n l j with
          | nil => rfl
          | cons a r => rw [eg] at ej; cases ej
        exact grp_ne hG hj this
      · have eL : L'.map (·.2) = (gsL F n l n).map iL := by
          refine groups_sorted hG (fun k hk => ?_) (fun i hi => ?_) hnd (List.pairwise_map.mpr srt)
          · obtain ⟨z, hz, rfl⟩ := List.mem_map.mp hk
            exact k4 z (pm.mem_iff.mp hz)
          · exact (pm.map (·.2)).mem_iff.mpr (k5 i hi)
        refine ⟨p, _, rfl, .inl ⟨SqL.of upd_same, fun tp htp => ?_⟩⟩
        have s2 := (Sm.new (o := .lst (L'.map fun q => V.ref q.1)) hp).trans (Sm.new (o := .tup (L'.map fun q => V.ref q.1)) htp)
        refine q _ _ (sx.trans s2) ⟨tp, _, rfl, SqT.of upd_same, ?_⟩
        rw [← eL]
        refine ⟨by rw [List.length_map, List.length_map], fun i v ns hv hns => ?_⟩
        rw [List.getElem?_map] at hv hns
        cases ez : L'[i]? with
        | none => rw [ez] at hv; cases hv
        | some z =>
          rw [ez] at hv hns
          cases hv
          cases hns
          exact ⟨z.1, rfl, s2.sqT (k2 z (pm.mem_iff.mp (List.mem_of_getElem? ez)))⟩
end
theorem room65 {k : Nat} {A : Around} (hr : Room k A) : A.units + 65 < cLine := by have := hr.un; omega
theorem any_rows (t : List (List Int)) (k : List Int) : ((t.map rowD).any fun z => PyData.eqv z (rowD k)) = decide (k ∈ t) := by
  induction t with
  | nil => rfl
  | cons a t ih =>
    rw [List.map_cons, List.any_cons, ih]
    unfold rowD
    rw [eqv_tup]
    by_cases h1 : a = k
    · subst h1; simp
    · by_cases h2 : k ∈ t
      · simp [h1, h2]
      · have h3 : ¬ k = a := fun e => h1 e.symm
        simp [h1, h2, h3]
section
variable {P : Program} {w : World} {K : PySem.W.Frag} {mg : Str → Option Value} {base : Heap}
/-! ### the program: the levels of joins; clusters -/
def sp_steps (K : PySem.W.Frag) : Sp := fun vs H Q _ => ∃ (o : Addr) (ps : List Addr) (F : Nat → Nat → Int) (n : Nat), vs = [.ref o] ∧ H o = some (.lst (ps.map V.ref)) ∧ Rws H ps (sqr F n) ∧ n ≤ 20 ∧
  ∀ (H' : Hp) (p : Addr) (ns : List Int), Sm H H' → H' p = some (.lst (ns.map V.int)) → ns.Pairwise (· < ·) → (∀ k, k ∈ ns ↔ ∃ i j, i < n ∧ j < n ∧ k = F i j) → ns.length ≤ 400 → Q (.ref p) H'
theorem ok_steps {f : Addr} {fd : FuncData} {k : Nat} (F : Fun K "steps_of" "steps_of" s_steps_of f fd) (B : Bi mg) : FnOk P w K mg base CX0 (k + 1) f fd ["grid"] (sp_steps K) := by
  refine F.ok sc_steps_of (fun vs H Q E h => ?_) (fun cdv A outer s H vs Q E hr h => ?_)
  · obtain ⟨o, ps, F, n, rfl, _⟩ := h
    rfl
  · obtain ⟨o, ps, F, n, rfl, ho, hR, h20, q⟩ := h
    have nd := sc_steps_of.nd
    refine ⟨_, pss_one (ps_ret (pe_callB (cr_sortS rfl) (by rfl) B.sorted (by decide +kernel) (pa_cons
      (pe_si2 (own := [("row", 1), ("level", 2)]) (vs1 := [2]) (g := gName 1) (g1 := gName 2) (wi1 := iList K (tVar 1)) rfl nd (pi_list (pv 0)) (blkOk_by (N := N_steps_of) (sc := defScope s_steps_of) (by decide +kernel)) (by decide)
        (fun _ _ _ _ _ => pg_name (i := 1) nd rfl (.inl rfl)) (fun _ _ _ _ _ => pi_list (pv 1)) (fun _ _ _ _ _ => pg_name (i := 2) nd rfl (.inl rfl)) (fun _ _ _ _ _ => pv 2)) pa_nil))), ?_⟩
    have hpl := hR.1
    rw [sqr_len] at hpl
    refine ⟨.ref o, rfl, o, rfl, ⟨_, SqL.of ho⟩, fun D hDn => ?_⟩
    refine w_it (walk_list (xs := ps.map V.ref)) (fun i Hx => ∃ S m, Hx D = some (SetO w D S m) ∧ (∀ k, S k = true ↔ ∃ a b, a < i ∧ b < n ∧ k = F a b) ∧ m ≤ 20 * i ∧ Sm H Hx) ⟨_, 0, upd_same, fun k => by simp, by omega, Sm.new hDn⟩ (fun i Hx _ hP => ?_) (fun i x Hx Hx' hi hP hY => ?_) (fun Hx hP => ?_)
    · obtain ⟨_, _, _, _, _, sx⟩ := hP
      exact SqL.of (sx _ _ ho)
    · obtain ⟨rfl, hx⟩ := hY
      obtain ⟨S, m, k1, k2, k3, sx⟩ := hP
      rw [List.length_map] at hi
      have hin : i < n := by omega
      obtain ⟨rp, hrp, hrow⟩ := hR.get (i := i) (by rw [sqr_len]; exact hin)
      rw [sqr_row _ hin] at hrow
      obtain rfl : x = .ref rp := Option.some.inj (hx.symm.trans (refs_at hrp))
      refine ⟨rfl, .ref rp, rfl, rp, rfl, ⟨_, SqL.of (sx _ _ hrow)⟩, ?_⟩
      refine w_it (walk_list (xs := ((List.range n).map (F i)).map V.int)) (fun j Hz => ∃ S m, Hz D = some (SetO w D S m) ∧ (∀ k, S k = true ↔ ((∃ a b, a < i ∧ b < n ∧ k = F a b) ∨ ∃ b, b < j ∧ k = F i b)) ∧ m ≤ 20 * i + j ∧ Sm H Hz) ⟨S, m, k1, fun k => by rw [k2 k]; simp, by omega, sx⟩ (fun j Hz _ hP => ?_) (fun j y Hz0 Hz hj hP hY => ?_) (fun Hz hP => ?_)
      · obtain ⟨_, _, _, _, _, sz⟩ := hP
        exact SqL.of (sz _ _ hrow)
      · obtain ⟨rfl, hy⟩ := hY
        obtain ⟨S1, m1, g1, g2, g3, sz⟩ := hP
        rw [List.length_map, List.length_map, List.length_range] at hj
        obtain rfl : y = .int (F i j) := Option.some.inj (hy.symm.trans (range_at _ hj))
        refine ⟨rfl, _, rfl, _, S1, m1, rfl, g1, by unfold scanBound; omega, _, _, upd_same, fun k => ?_, ?_, ?_⟩
        · rw [Bool.or_eq_true, g2 k, decide_eq_true_iff, or_assoc]
          refine or_congr_right ⟨fun h => ?_, fun h => ?_⟩
          · rcases h with ⟨b, hb, e⟩ | e
            · exact ⟨b, by omega, e⟩
            · exact ⟨j, by omega, e⟩
          · obtain ⟨b, hb, e⟩ := h
            rcases Nat.lt_succ_iff_lt_or_eq.mp hb with z | z
            · exact .inl ⟨b, z, e⟩
            · rw [z] at e; exact .inr e
        · split <;> omega
        · intro b u e
          rw [upd_ne (ne_of_none e hDn)]
          exact sz b u e
      · obtain ⟨S1, m1, g1, g2, g3, sz⟩ := hP
        rw [List.length_map, List.length_map, List.length_range] at g2 g3
        refine ⟨S1, m1, g1, fun k => ?_, by omega, sz⟩
        rw [g2 k]
        constructor
        · rintro (⟨a, b, ha, hb, e⟩ | ⟨b, hb, e⟩)
          · exact ⟨a, b, by omega, hb, e⟩
          · exact ⟨i, b, by omega, hb, e⟩
        · rintro ⟨a, b, ha, hb, e⟩
          rcases Nat.lt_succ_iff_lt_or_eq.mp ha with z | z
          · exact .inl ⟨a, b, z, hb, e⟩
          · rw [z] at e; exact .inr ⟨b, hb, e⟩
    · obtain ⟨S, m, k1, k2, k3, sx⟩ := hP
      rw [List.length_map, hpl] at k2 k3
      refine ⟨D, S, m, rfl, k1, by omega, fun ns p srt mem len hp => ?_⟩
      exact q _ p ns (sx.trans (Sm.new hp)) upd_same srt (fun k => by rw [mem k, k2 k]) (by omega)
end
section
variable {P : Program} {w : World} {K : PySem.W.Frag} {mg : Str → Option Value} {base : Heap}
/-! ### the program: joins -/
theorem mem_iLs {gs : List (List Nat)} {g : List Nat} : iL g ∈ gs.map iL ↔ g ∈ gs := by
  rw [List.mem_map]
  constructor
  · rintro ⟨h, hh, e⟩
    rw [← iL_inj2 e]
    exact hh
  · exact fun h => ⟨g, h, rfl⟩
def sp_joinsOf (K : PySem.W.Frag) : Sp := fun vs H Q _ => ∃ (tv : V) (t : List (List Int)), vs = [tv] ∧ TT K H tv t ∧ WT t ∧ t.length ≤ 20 ∧
  ∀ (H' : Hp) (v : V) (js : List Jo), Sm H H' → JTT K H' v js → js.Pairwise JLt → (∀ j, j ∈ js ↔ IsJ (jn t) t.length j) → Q v H'
theorem steps_tail {F : Nat → Nat → Int} {n : Nat} (U : UlF F n) {ns : List Int} (srt : ns.Pairwise (· < ·)) (mem : ∀ k, k ∈ ns ↔ ∃ i j, i < n ∧ j < n ∧ k = F i j) (l : Int) : l ∈ ns.drop 1 ↔ 1 ≤ l ∧ ∃ i j, i < n ∧ j < n ∧ l = F i j := by
  cases ns with
  | nil =>
    constructor
    · intro h; simp at h
    · rintro ⟨_, i, j, hi, hj, e⟩
      exact absurd ((mem l).mpr ⟨i, j, hi, hj, e⟩) List.not_mem_nil
  | cons a r =>
    obtain ⟨h1, h2⟩ := List.pairwise_cons.mp srt
    obtain ⟨i0, j0, hi0, hj0, e0⟩ := (mem a).mp List.mem_cons_self
    have z0 : (0 : Int) ∈ a :: r := (mem 0).mpr ⟨i0, i0, hi0, hi0, (U.diag i0 hi0).symm⟩
    have ha : a = 0 := by
      have nn := U.nn hi0 hj0
      rcases List.mem_cons.mp z0 with e | e
      · exact e.symm
      · have := h1 0 e
        omega
    show l ∈ r ↔ _
    constructor
    · intro h
      have := h1 l h
      exact ⟨by omega, (mem l).mp (List.mem_cons_of_mem _ h)⟩
    · rintro ⟨hl, i, j, hi, hj, e⟩
      rcases List.mem_cons.mp ((mem l).mpr ⟨i, j, hi, hj, e⟩) with z | z
      · omega
      · exact z
theorem ok_joinsOf {f fS : Addr} {fd fdS : FuncData} (F : Fun K "joins_of" "joins_of" s_joins_of f fd) (DS : Df K mg "steps_of" s_steps_of fS fdS ["grid"]) (T : GroupDefs K mg) : FnOk P w K mg base CX0 4 f fd ["table"] (sp_joinsOf K) := by
  have B := T.G.B
  obtain ⟨fJ, fdJ, DJ⟩ := T.G.jgrid
  obtain ⟨fA, fdA, DA⟩ := T.all
  have GJ : FnOk P w K mg base CX0 3 fJ fdJ ["table"] (sp_jgrid K) := ok_jgrid DJ.F T.G
  have GA : FnOk P w K mg base CX0 3 fA fdA ["grid", "level"] (sp_groups K) := (ok_groups DA.F T).mono (by decide)
  have GS : FnOk P w K mg base CX0 3 fS fdS ["grid"] (sp_steps K) := ok_steps DS.F B
  refine F.ok sc_joins_of (fun vs H Q E h => ?_) (fun cdv A outer s H vs Q E hr h => ?_)
  · obtain ⟨tv, t, rfl, _⟩ := h
    rfl
  · obtain ⟨tv, t, rfl, hT, hW, h20, q⟩ := h
    have nd := sc_joins_of.nd
    refine ⟨_, pss_cons (ps_set (i := 1) nd rfl (.inl rfl) (pe_cl DJ GJ hr (pa_cons (pv 0) pa_nil)))
      (pss_cons (ps_set (i := 2) nd rfl (.inl rfl) (pe_lst pa_nil))
      (pss_cons (ps_for PassesOwn.never rfl (pi_list (pe_slice sl_list (pe_cl DS GS hr (pa_cons (pv 1) pa_nil)) (po_some pe_int) po_none)) (pg_name (i := 3) nd rfl (.inl rfl))
        (pss_cons (ps_set (i := 4) nd rfl (.inl rfl) (pe_cl DA GA hr (pa_cons (pv 1) (pa_cons (pe_op op_sub (pv 3) pe_int) pa_nil))))
        (pss_one (ps_for PassesOwn.never rfl (pi_tup (pe_cl DA GA hr (pa_cons (pv 1) (pa_cons (pv 3) pa_nil)))) (pg_name (i := 5) nd rfl (.inr rfl))
          (pss_one (ps_if (pt_cmpR (r := rNotInDT K) (op_notInDT (room65 hr)) (pv 5) (pv 4) (by rfl))
            (pss_one (ps_expr (pe_bm PySem.F.plainAttrs_list PySem.F.slot_list_append PySem.F.type_list_append mt_append (pv 2) (pa_cons (pe_tup (pa_cons (pv 3) (pa_cons (pe_callTy call_tuple_of (by rfl) B.tuple (by decide +kernel) (pa_cons
              (pe_lc (own := [("part", 6)]) (g := gName 6) (tt := tTest (tOp (rIn K false) (tOp (rIxT K) (tVar 6) (tC (.int 0))) (tVar 5))) rfl nd (pi_tup (pv 4)) (blkOk_by (N := N_joins_of) (sc := defScope s_joins_of) (by decide +kernel))
                (fun _ _ _ _ _ => pg_name (i := 6) nd rfl (.inl rfl)) (fun _ _ _ _ _ => pts_one (pt_cmpR op_in_seq (pe_ix ix_tup (pv 6) pe_int (fun _ _ => rfl)) (pv 5) (by rfl))) (fun _ _ _ _ _ => pv 6)) pa_nil)) pa_nil))) pa_nil)))) pss_nil))))))
      (pss_one (ps_ret (pe_callTy call_tuple_of (by rfl) B.tuple (by decide +kernel) (pa_cons (pv 2) pa_nil)))))), ?_⟩
    refine ⟨tv, rfl, tv, t, rfl, hT, hW, h20, fun H1 o ps s1 ho hR => ?_⟩
    have U := jn_ulF hW
    refine ⟨Nat.zero_le _, fun jo hjo => ?_⟩
    have s2 : Sm H1 (upd H1 jo (.lst [])) := Sm.new hjo
    have hjo2 : (upd H1 jo (.lst [])) jo = some (.lst []) := upd_same
    generalize upd H1 jo (.lst []) = H2 at s2 hjo2
    refine ⟨.ref o, rfl, o, ps, jn t, t.length, rfl, s2 _ _ ho, hR.same s2, h20, fun H3 sp ns s3 hsp srt mem len => ?_⟩
    refine ⟨_, rfl, sp, _, rfl, SqL.of hsp, fun lp hlp => ?_⟩
    rw [show (1 : Int) = ((1 : Nat) : Int) from rfl, cut_from, ← List.map_drop]
    have hls := steps_tail U srt mem
    have srt2 : (ns.drop 1).Pairwise (· < ·) := List.Pairwise.sublist (List.drop_sublist 1 ns) srt
    generalize ns.drop 1 = ls at hls srt2
    have s4 : Sm H3 (upd H3 lp (.lst (ls.map V.int))) := Sm.new hlp
    have hlp4 : (upd H3 lp (.lst (ls.map V.int))) lp = some (.lst (ls.map V.int)) := upd_same
    have nlp : lp ≠ jo := fun e => by
      rw [e, s3 _ _ hjo2] at hlp
      cases hlp
    generalize upd H3 lp (.lst (ls.map V.int)) = H4 at s4 hlp4
    have all : ∀ j, j ∈ ls.flatMap (joinsA (jn t) t.length) ↔ IsJ (jn t) t.length j := fun j => joins_mem U hls
    have asc := joins_asc U (ls := ls) (fun l hl => ((hls l).mp hl).1) srt2
    have few : (ls.flatMap (joinsA (jn t) t.length)).length ≤ 20 := by
      have := joins_few U (jlt_nodup asc) fun j hj => (all j).mp hj
      omega
    refine ⟨lp, rfl, ⟨_, SqL.of hlp4⟩, for_list (xs := ls.map V.int) (fun m σ Hx => ∃ x3 x4 x5 xs, σ = [some tv, some (.ref o), some (.ref jo), x3, x4, x5, none] ∧ Hx jo = some (.lst xs) ∧ JRows K Hx xs ((ls.take m).flatMap (joinsA (jn t) t.length)) ∧ Sm H1 Hx ∧ Hx lp = some (.lst (ls.map V.int))) ⟨none, none, none, [], rfl, (s3.trans s4) _ _ hjo2, JRows.nil, (s2.trans s3).trans s4, hlp4⟩ (fun m σ Hx _ hI => ?_) (fun m v σ Hx hv hI => ?_) (fun σ Hx hI => ?_)⟩
    · obtain ⟨_, _, _, _, _, _, _, _, hl⟩ := hI
      exact SqL.of hl
    · obtain ⟨x3, x4, x5, xs, rfl, k1, k2, sx, hlx⟩ := hI
      obtain ⟨l, hl, rfl⟩ : ∃ l : Int, ls[m]? = some l ∧ v = .int l := by
        rw [List.getElem?_map] at hv
        cases e : ls[m]? with
        | none => rw [e] at hv; cases hv
        | some z => rw [e] at hv; exact ⟨z, rfl, (Option.some.inj hv).symm⟩
      have hl1 : 1 ≤ l := ((hls l).mp (List.mem_of_getElem? hl)).1
      have G := U.gr (show 0 ≤ l by omega)
      have G1 := U.gr (show 0 ≤ l - 1 by omega)
      show _
      refine ⟨.ref o, rfl, .int l, rfl, _, _, rfl, rfl, o, ps, jn t, t.length, l - 1, rfl, sx _ _ ho, hR.same sx, h20, G1, fun H5 bv s5 hbv => ?_⟩
      obtain ⟨bp, br, rfl, _, _⟩ := id hbv
      have sx5 := sx.trans s5
      refine ⟨.ref o, rfl, .int l, rfl, o, ps, jn t, t.length, l, rfl, sx5 _ _ ho, hR.same sx5, h20, G, fun H6 gv s6 hgv => ?_⟩
      obtain ⟨gp, gr, rfl, hgp, hgR⟩ := id hgv
      have hgl := hgR.1
      rw [List.length_map] at hgl
      have etkm : (ls.take (m + 1)).flatMap (joinsA (jn t) t.length) = (ls.take m).flatMap (joinsA (jn t) t.length) ++ joinsA (jn t) t.length l := by
        rw [List.take_add_one, hl, List.flatMap_append]
        simp
      have lenm : ∀ k, ((ls.take m).flatMap (joinsA (jn t) t.length) ++ (newG (jn t) t.length l ((gsL (jn t) t.length l t.length).take k)).map (joinG (jn t) t.length l)).length ≤ 420 := fun k => by
        have e1 : ((ls.take m).flatMap (joinsA (jn t) t.length)).length ≤ 20 := by
          have e := congrArg List.length (show ls.flatMap (joinsA (jn t) t.length) = (ls.take m).flatMap (joinsA (jn t) t.length) ++ (ls.drop m).flatMap (joinsA (jn t) t.length) by rw [← List.flatMap_append, List.take_append_drop])
          rw [List.length_append] at e
          omega
        have e2 : (newG (jn t) t.length l ((gsL (jn t) t.length l t.length).take k)).length ≤ 20 := by
          unfold newG
          refine Nat.le_trans (List.length_filter_le _ _) ?_
          rw [List.length_take]
          have := gsL_len (jn t) t.length l t.length
          omega
        rw [List.length_append, List.length_map]
        omega
      refine ⟨gp, rfl, ⟨_, hgp⟩, for_tup (xs := gr) (fun k σ Hy => ∃ x5 xs, σ = [some tv, some (.ref o), some (.ref jo), some (.int l), some (.ref bp), x5, none] ∧ Hy jo = some (.lst xs) ∧ JRows K Hy xs ((ls.take m).flatMap (joinsA (jn t) t.length) ++ (newG (jn t) t.length l ((gsL (jn t) t.length l t.length).take k)).map (joinG (jn t) t.length l)) ∧ Sm H1 Hy ∧ Hy lp = some (.lst (ls.map V.int)) ∧ TT K Hy (.ref bp) ((gsL (jn t) t.length (l - 1) t.length).map iL) ∧ SqT K Hy gp gr ∧ Rows K Hy gr ((gsL (jn t) t.length l t.length).map iL))
        ⟨x5, xs, rfl, (s5.trans s6) _ _ k1, by simpa [newG] using k2.same (s5.trans s6), sx5.trans s6, (s5.trans s6) _ _ hlx, hbv.same s6, hgp, hgR⟩ (fun k σ Hy _ hI => ?_) (fun k y σ Hy hy hI => ?_) (fun σ Hy hI => ?_)⟩
      · obtain ⟨_, _, _, _, _, _, _, _, hq, _⟩ := hI
        exact hq
      · obtain ⟨x5, ys, rfl, j1, j2, sy, hly, hby, hq, hRy⟩ := hI
        have hk2 : k < (gsL (jn t) t.length l t.length).length := by
          have := (List.getElem?_eq_some_iff.mp hy).1
          omega
        obtain ⟨g, hg⟩ : ∃ g, (gsL (jn t) t.length l t.length)[k]? = some g := ⟨_, List.getElem?_eq_getElem hk2⟩
        obtain ⟨gq, rfl, hgq⟩ := hRy.2 k y (iL g) hy (by rw [List.getElem?_map, hg]; rfl)
        have etk : newG (jn t) t.length l ((gsL (jn t) t.length l t.length).take (k + 1)) = newG (jn t) t.length l ((gsL (jn t) t.length l t.length).take k) ++ (if g ∈ gsL (jn t) t.length (l - 1) t.length then [] else [g]) := by
          unfold newG
          rw [List.take_add_one, hg, List.filter_append]
          congr 1
          by_cases h : g ∈ gsL (jn t) t.length (l - 1) t.length <;> simp [h]
        have jl := j2.1
        have lk := lenm k
        show _
        refine ⟨.ref gq, rfl, .ref bp, rfl, rowD (iL g), ((gsL (jn t) t.length (l - 1) t.length).map iL).map rowD, .tup hgq (dp_ints _), hby.dp, shaped_tup _, lay_tab _, _, rfl, ?_⟩
        rw [any_rows]
        by_cases hm : g ∈ gsL (jn t) t.length (l - 1) t.length
        · rw [decide_eq_true (mem_iLs.mpr hm)]
          refine ⟨_, ys, rfl, j1, ?_, sy, hly, hby, hq, hRy⟩
          rw [etk, if_pos hm, List.append_nil]
          exact j2
        · rw [decide_eq_false (fun z => hm (mem_iLs.mp z))]
          obtain ⟨_, br2, eb, hbp, hbR⟩ := id hby
          cases eb
          have hbl := hbR.1
          rw [List.length_map] at hbl
          refine ⟨.ref jo, rfl, .inl ⟨rfl, _, SqL.of j1⟩, .int l, rfl, .ref bp, rfl, bp, rfl, ⟨_, hbp⟩, fun D hDn => lc_tup (xs := br2) (fun i Hz => ∃ ws, Hz D = some (.lst ws) ∧ Rows K Hz ws ((((gsL (jn t) t.length (l - 1) t.length).take i).filter fun p => decide (p.headD 0 ∈ g)).map iL) ∧ Sm Hy Hz) ⟨[], upd_same, Rows.nil, Sm.new hDn⟩ (fun i Hz _ hP => ?_) (fun i z Hz hz hP => ?_) (fun Hz hP => ?_)⟩
          · obtain ⟨_, _, _, sz⟩ := hP
            exact sz.sqT hbp
          · obtain ⟨ws, w1, w2, sz⟩ := hP
            have hi2 : i < (gsL (jn t) t.length (l - 1) t.length).length := by
              have := (List.getElem?_eq_some_iff.mp hz).1
              omega
            obtain ⟨p, hp⟩ : ∃ p, (gsL (jn t) t.length (l - 1) t.length)[i]? = some p := ⟨_, List.getElem?_eq_getElem hi2⟩
            obtain ⟨pq, rfl, hpq⟩ := hbR.2 i z (iL p) hz (by rw [List.getElem?_map, hp]; rfl)
            obtain ⟨c, hc, ep⟩ := (mem_gsL G1).mp (List.mem_of_getElem? hp)
            obtain ⟨a, pr, epa⟩ : ∃ a pr, p = a :: pr := by
              cases e : p with
              | nil => exact absurd (ep.symm.trans e) (grp_ne G1 hc)
              | cons a pr => exact ⟨a, pr, rfl⟩
            have etk2 : ((gsL (jn t) t.length (l - 1) t.length).take (i + 1)).filter (fun p => decide (p.headD 0 ∈ g)) = ((gsL (jn t) t.length (l - 1) t.length).take i).filter (fun p => decide (p.headD 0 ∈ g)) ++ (if a ∈ g then [p] else []) := by
              rw [List.take_add_one, hp, List.filter_append]
              congr 1
              by_cases h : a ∈ g <;> simp [epa, h]
            have wl := w2.1
            have wl2 : ws.length ≤ 20 := by
              rw [wl, List.length_map]
              refine Nat.le_trans (List.length_filter_le _ _) ?_
              rw [List.length_take]
              have := gsL_len (jn t) t.length (l - 1) t.length
              omega
            refine ⟨rfl, .ref pq, rfl, pq, _, 0, .int (a : Int), rfl, rfl, sz.sqT hpq, by rw [epa]; exact atI_nat (j := 0) rfl, .ref gq, rfl, gq, _, rfl, .inr (sz.sqT hgq), rfl, by simp [List.all_eq_true, flatV], ?_⟩
            rw [show (if false = true then !inV (.int (a : Int)) ((iL g).map V.int) else inV (.int (a : Int)) ((iL g).map V.int)) = decide (a ∈ g) by
              rw [if_neg (by decide), show (iL g).map V.int = g.map fun i : Nat => V.int (i : Int) by unfold iL; rw [List.map_map]; rfl]
              exact any_nI a g]
            refine ⟨_, rfl, ite2 (fun e => ?_) (fun e => ?_)⟩
            · have ha : a ∈ g := of_decide_eq_true e
              refine ⟨.ref pq, rfl, _, w1, small1000 (by omega), _, upd_same, ?_, ?_⟩
              · rw [etk2, if_pos ha, List.map_append]
                exact (w2.snoc ⟨pq, rfl, sz.sqT hpq⟩).upd w1
              · intro b u e
                rw [upd_ne (ne_of_none e hDn)]
                exact sz b u e
            · have ha : ¬ a ∈ g := fun z => e (decide_eq_true z)
              refine ⟨ws, w1, ?_, sz⟩
              rw [etk2, if_neg ha, List.append_nil]
              exact w2
          · obtain ⟨ws, w1, w2, sz⟩ := hP
            rw [hbl, List.take_length] at w2
            refine ⟨D, _, rfl, .inl ⟨SqL.of w1, fun tq htq => ?_⟩⟩
            have s7 := sz.trans (Sm.new (o := .tup ws) htq)
            have hTq : TT K (upd Hz tq (.tup ws)) (.ref tq) ((partsN (jn t) t.length l g).map iL) := ⟨tq, ws, rfl, SqT.of upd_same, w2.same (Sm.new htq)⟩
            generalize upd Hz tq (.tup ws) = H8 at s7 hTq
            refine ⟨(by show 2 ≤ sizeLine; decide), fun pj hpj => ?_⟩
            have s9 : Sm H8 (upd H8 pj (.tup [.int l, .ref tq])) := Sm.new hpj
            have hJ : JT K (upd H8 pj (.tup [.int l, .ref tq])) (.ref pj) (joinG (jn t) t.length l g) := ⟨pj, .ref tq, rfl, SqT.of upd_same, hTq.same s9⟩
            generalize upd H8 pj (.tup [.int l, .ref tq]) = H9 at s9 hJ
            have sA := s7.trans s9
            have jA := sA _ _ j1
            refine ⟨jo, _, _, rfl, rfl, jA, small1000 (by omega), ?_⟩
            refine ⟨_, _, rfl, upd_same, ?_, ?_, ?_, (hby.same sA).upd jA, sqT_upd jA (sA.sqT hq), (hRy.same sA).upd jA⟩
            · rw [etk, if_neg hm, List.map_append, ← List.append_assoc]
              exact ((j2.same sA).snoc hJ).upd jA
            · intro b u e
              rw [upd_ne (ne_of_none e hjo)]
              exact sA _ _ (sy b u e)
            · rw [upd_ne nlp]
              exact sA _ _ hly
      · obtain ⟨x5, ys, rfl, j1, j2, sy, hly, _, _, _⟩ := hI
        rw [hgl, List.take_length] at j2
        refine ⟨_, _, _, ys, rfl, j1, ?_, sy, hly⟩
        rw [etkm]
        exact j2
    · obtain ⟨x3, x4, x5, xs, rfl, k1, k2, sx, _⟩ := hI
      rw [List.length_map, List.take_length] at k2
      refine ⟨.ref jo, rfl, jo, _, rfl, .inl ⟨SqL.of k1, fun tq htq => ?_⟩⟩
      exact q _ _ _ ((s1.trans sx).trans (Sm.new htq)) ⟨tq, xs, rfl, SqT.of upd_same, k2.same (Sm.new htq)⟩ asc all
end
section
variable {P : Program} {w : World} {K : PySem.W.Frag} {mg : Str → Option Value} {base : Heap}
/-! ### the program: whole numbers and tuples -/
def sp_whole2 (K : PySem.W.Frag) : Sp := fun vs H Q _ => ∃ v, vs = [v] ∧ ((∃ i : Int, v = .int i ∧ Q (.bl true) H) ∨ ∃ p xs, v = .ref p ∧ SqT K H p xs ∧ Q (.bl false) H)
theorem ok_whole2 {f : Addr} {fd : FuncData} {k : Nat} (F : Fun K "is_whole" "is_whole" s_is_whole f fd) (B : Bi mg) : FnOk P w K mg base CX0 (k + 1) f fd ["value"] (sp_whole2 K) := by
  refine F.ok sc_is_whole (fun vs H Q E h => ?_) (fun cdv A outer s H vs Q E hr h => ?_)
  · obtain ⟨v, rfl, _⟩ := h
    rfl
  · obtain ⟨v, rfl, h⟩ := h
    refine ⟨_, pss_one (ps_ret (pe_and (pe_callB call_isi (by rfl) B.isinstance (by decide +kernel) (pa_cons (pv 0) (pa_cons (pe_bltn (by rfl) B.int (by decide +kernel) (v := .ty "int") rfl) pa_nil)))
      (pe_one (pe_not (pe_callB call_isi (by rfl) B.isinstance (by decide +kernel) (pa_cons (pv 0) (pa_cons (pe_bltn (by rfl) B.bool (by decide +kernel) (v := .ty "bool") rfl) pa_nil))))))), ?_⟩
    rcases h with ⟨i, rfl, q⟩ | ⟨p, xs, rfl, hp, q⟩
    · exact ⟨_, rfl, .int i, .ty "int", .type "int", _, true, rfl, .ty _, .base (.int i), kit_ty (show kitB "int" "int" = some true by decide +kernel), true, rfl, ⟨_, rfl, .int i, .ty "bool", .type "int", _, false, rfl, .ty _, .base (.int i), kit_ty (show kitB "int" "bool" = some false by decide +kernel), false, rfl, q⟩⟩
    · exact ⟨_, rfl, .ref p, .ty "int", .type "tuple", _, false, rfl, .ty _, ty_tup hp, kit_ty (show kitB "tuple" "int" = some false by decide +kernel), false, rfl, q⟩
/-! ### the program: the items of a tree -/
def HasI (S : List Nat) (ns : List Int) : Prop := ns.length = S.length ∧ ∀ x : Nat, (x : Int) ∈ ns ↔ x ∈ S
theorem hasI_in {S : List Nat} {ns : List Int} (h : HasI S ns) (x : Nat) : inV (.int (x : Int)) (ns.map V.int) = decide (x ∈ S) := by
  have e : ∀ l : List Int, inV (.int (x : Int)) (l.map V.int) = decide ((x : Int) ∈ l) := fun l => by
    induction l with
    | nil => rfl
    | cons a l ih =>
      have i2 : inV (.int (x : Int)) (List.map V.int (a :: l)) = (eqV (.int a) (.int (x : Int)) || inV (.int (x : Int)) (l.map V.int)) := by
        simp only [inV, List.map_cons, List.any_cons]
      rw [i2, ih]
      have i3 : eqV (.int a) (.int (x : Int)) = decide ((x : Int) = a) := by
        show decide (a = (x : Int)) = _
        rw [decide_eq_decide]
        exact eq_comm
      rw [i3]
      by_cases h1 : (x : Int) = a <;> by_cases h2 : (x : Int) ∈ l <;> simp [h1, h2]
  rw [e, decide_eq_decide]
  exact h.2 x
theorem int_flat (ns : List Int) : (ns.map V.int).all flatV = true := by
  rw [List.all_map]
  exact List.all_eq_true.mpr fun _ _ => rfl
def sp_titems (K : PySem.W.Frag) (n : Nat) : Sp := fun vs H Q _ => ∃ (v : V) (t : List (List Int)) (S : List Nat), vs = [v] ∧ TrV K H t n S v ∧ S.length ≤ 20 ∧
  ∀ (H' : Hp) (p : Addr) (ns : List Int), Sm H H' → H p = none → H' p = some (.lst (ns.map V.int)) → HasI S ns → Q (.ref p) H'
theorem cut1 (l : Int) (vs : List V) : cutV (.int l :: vs) (some 1) none = vs := by
  rw [show (1 : Int) = ((1 : Nat) : Int) from rfl, cut_from]
  rfl
theorem sum_take {Ss : List (List Nat)} {i : Nat} {P : List Nat} (h : Ss[i]? = some P) : ((Ss.take (i + 1)).map List.length).sum = ((Ss.take i).map List.length).sum + P.length := by
  rw [List.take_add_one, h, List.map_append, List.sum_append]
  simp
theorem ok_titems {f fW : Addr} {fd fdW : FuncData} (D : Df K mg "items_of" s_items_of f fd ["tree"]) (DW : Df K mg "is_whole" s_is_whole fW fdW ["value"]) (B : Bi mg) : ∀ n, FnOk P w K mg base CX0 (n + 2) f fd ["tree"] (sp_titems K n)
  | 0 => by
    have GW : FnOk P w K mg base CX0 (0 + 1) fW fdW ["value"] (sp_whole2 K) := ok_whole2 DW.F B
    refine D.F.ok sc_items_of (fun vs H Q E h => ?_) (fun cdv A outer s H vs Q E hr h => ?_)
    · obtain ⟨v, t, S, rfl, _⟩ := h
      rfl
    · obtain ⟨v, t, S, rfl, hT, h20, q⟩ := h
      have nd := sc_items_of.nd
      refine ⟨_, pss_cons (ps_if (pt_val (pe_cl DW GW hr (pa_cons (pv 0) pa_nil))) (pss_one (ps_ret (pe_lst (pa_cons (pv 0) pa_nil)))) pss_nil) pss_never, ?_⟩
      obtain ⟨i, rfl, rfl⟩ : ∃ i : Nat, S = [i] ∧ v = .int (i : Int) := by
        generalize hz : (0 : Nat) = z at hT
        cases hT with
        | leaf n i hi => exact ⟨i, rfl, rfl⟩
        | node hp hl hk ok => exact absurd hz (by omega)
      refine ⟨.int (i : Int), rfl, .int (i : Int), rfl, .inl ⟨_, rfl, true, rfl, ?_⟩⟩
      refine ⟨_, rfl, (by show 1 ≤ sizeLine; decide), fun p hp => ?_⟩
      exact q _ p [(i : Int)] (Sm.new hp) hp upd_same ⟨rfl, fun x => by simp only [List.mem_singleton]; omega⟩
  | n + 1 => by
    have GW : FnOk P w K mg base CX0 (n + 1 + 1) fW fdW ["value"] (sp_whole2 K) := ok_whole2 DW.F B
    refine D.F.ok sc_items_of (fun vs H Q E h => ?_) (fun cdv A outer s H vs Q E hr h => ?_)
    · obtain ⟨v, t, S, rfl, _⟩ := h
      rfl
    · obtain ⟨v, t, S, rfl, hT, h20, q⟩ := h
      have nd := sc_items_of.nd
      have G := ok_titems D DW B n
      refine ⟨_, pss_cons (ps_if (pt_val (pe_cl DW GW hr (pa_cons (pv 0) pa_nil))) (pss_one (ps_ret (pe_lst (pa_cons (pv 0) pa_nil)))) pss_nil)
        (pss_one (ps_ret (pe_lc2 (own := [("part", 1), ("item", 2)]) (vs1 := [2]) (g := gName 1) (g1 := gName 2) (tt := tYes) (tt1 := tYes) (wi1 := iList K (tCall (sp_titems K n) [] E0 (tCons (tVar 1) tNil))) rfl nd (pi_tup (pe_slice sl_tupW (pv 0) (po_some pe_int) po_none)) (blkOk_by (N := N_items_of) (sc := defScope s_items_of) (by decide +kernel)) (by decide)
          (fun _ _ _ _ _ => pg_name (i := 1) nd rfl (.inl rfl)) (fun _ _ _ _ _ => pts_nil) (fun _ _ _ _ _ => pi_list (pe_cl D G hr (pa_cons (pv 1) pa_nil))) (fun _ _ _ _ _ => pg_name (i := 2) nd rfl (.inl rfl)) (fun _ _ _ _ _ => pts_nil) (fun _ _ _ _ _ => pv 2)))), ?_⟩
      cases hT with
      | leaf n i hi =>
        refine ⟨.int (i : Int), rfl, .int (i : Int), rfl, .inl ⟨_, rfl, true, rfl, ?_⟩⟩
        refine ⟨_, rfl, (by show 1 ≤ sizeLine; decide), fun p hp => ?_⟩
        exact q _ p [(i : Int)] (Sm.new hp) hp upd_same ⟨rfl, fun x => by simp only [List.mem_singleton]; omega⟩
      | node hp hl hk ok =>
        rename_i p l vs Ss
        refine ⟨.ref p, rfl, .ref p, rfl, .inr ⟨p, _, rfl, hp, false, rfl, ?_⟩⟩
        show _
        refine ⟨.ref p, rfl, _, rfl, p, _, rfl, hp, fun sl H1 s1 hsl => ?_⟩
        rw [cut1] at hsl
        refine ⟨sl, rfl, ⟨_, hsl⟩, fun Da hDa => ?_⟩
        refine w_it (walk_tup (xs := vs)) (fun i Hx => ∃ ns : List Int, Hx Da = some (.lst (ns.map V.int)) ∧ ns.length = ((Ss.take i).map List.length).sum ∧ (∀ x : Nat, (x : Int) ∈ ns ↔ ∃ P ∈ Ss.take i, x ∈ P) ∧ Sm H1 Hx)
          ⟨[], upd_same, rfl, fun x => by simp, Sm.new hDa⟩ (fun i Hx _ hP => ?_) (fun i x Hx Hx' hi hP hY => ?_) (fun Hx hP => ?_)
        · obtain ⟨_, _, _, _, sx⟩ := hP
          exact sx.sqT hsl
        · obtain ⟨rfl, hx⟩ := hY
          obtain ⟨ns, k1, k2, k3, sx⟩ := hP
          obtain ⟨P', hP'⟩ : ∃ P', Ss[i]? = some P' := ⟨_, List.getElem?_eq_getElem (by omega)⟩
          have hTi := (hk i x P' hx hP').same (s1.trans sx)
          have lp := (ok.lt P' (List.mem_of_getElem? hP')).2
          refine ⟨rfl, x, rfl, x, t, P', rfl, hTi, by omega, fun H2 rp ms s2 nrp hrp hms => ?_⟩
          refine ⟨rp, rfl, ⟨_, SqL.of hrp⟩, ?_⟩
          have k1' := s2 _ _ k1
          have z20 : ns.length ≤ 400 := by
            have a1 : ((Ss.take i).map List.length).sum ≤ (Ss.map List.length).sum := by
              have e := List.take_append_drop i Ss
              have e2 : (Ss.map List.length).sum = ((Ss.take i).map List.length).sum + ((Ss.drop i).map List.length).sum := by
                conv => lhs; rw [← e]
                rw [List.map_append, List.sum_append]
              omega
            have := ok.len
            omega
          have hml := hms.1
          refine w_it (walk_list (xs := ms.map V.int)) (fun j Hz => Hz Da = some (.lst ((ns ++ ms.take j).map V.int)) ∧ Sm H1 Hz ∧ Hz rp = some (.lst (ms.map V.int))) ⟨by rw [List.take_zero, List.append_nil]; exact k1', sx.trans s2, hrp⟩ (fun j Hz _ hP => SqL.of hP.2.2) (fun j y Hz Hz' hj hP hY => ?_) (fun Hz hP => ?_)
          · obtain ⟨rfl, hy⟩ := hY
            obtain ⟨g1, g2, g3⟩ := hP
            rw [List.length_map] at hj
            obtain rfl : y = .int (ms.getD j 0) := Option.some.inj (hy.symm.trans (map_at (getD_at hj)))
            have ne : rp ≠ Da := (ne_of_none k1 nrp).symm
            refine ⟨rfl, _, rfl, _, g1, ?_, ?_, ?_, ?_⟩
            · rw [List.length_map, List.length_append, List.length_take]
              exact small1000 (by omega)
            · rw [upd_same, List.take_add_one, getD_at hj, ← List.append_assoc, List.map_append (l₂ := (some (ms.getD j 0)).toList)]
              rfl
            · intro b u e
              rw [upd_ne (ne_of_none e hDa)]
              exact g2 b u e
            · rw [upd_ne ne]
              exact g3
          · obtain ⟨g1, g2, g3⟩ := hP
            rw [List.length_map, List.take_length] at g1
            refine ⟨_, g1, ?_, fun x => ?_, g2⟩
            · rw [List.length_append, sum_take hP', k2, hml]
            · rw [List.mem_append, k3 x, hms.2 x, List.take_add_one, hP']
              simp only [Option.toList_some, List.mem_append, List.mem_singleton]
              constructor
              · rintro (⟨Q', h1, h2⟩ | h)
                · exact ⟨Q', .inl h1, h2⟩
                · exact ⟨P', .inr rfl, h⟩
              · rintro ⟨Q', h1 | rfl, h2⟩
                · exact .inl ⟨Q', h1, h2⟩
                · exact .inr h2
        · obtain ⟨ns, k1, k2, k3, sx⟩ := hP
          rw [hl, List.take_length] at k2 k3
          exact q Hx Da ns (s1.trans sx) (s1.free hDa) k1 ⟨by rw [k2, ok.len], fun x => by rw [k3 x, ok.mem x]⟩
end
section
variable {P : Program} {w : World} {K : PySem.W.Frag} {mg : Str → Option Value} {base : Heap}
/-! ### the program: the level of two items in a tree -/
def sp_lin (K : PySem.W.Frag) (n : Nat) : Sp := fun vs H Q _ => ∃ (v : V) (t : List (List Int)) (S : List Nat) (i j : Nat), vs = [v, .int (i : Int), .int (j : Int)] ∧ TrV K H t n S v ∧ S.length ≤ 20 ∧ i ∈ S ∧ j ∈ S ∧ i ≠ j ∧
  ∀ (H' : Hp), Sm H H' → Q (.int (lev t i j)) H'
theorem ok_lin {f fI fW : Addr} {fd fdI fdW : FuncData} (D : Df K mg "level_in" s_level_in f fd ["tree", "one", "other"]) (DI : Df K mg "items_of" s_items_of fI fdI ["tree"]) (DW : Df K mg "is_whole" s_is_whole fW fdW ["value"]) (B : Bi mg) : ∀ n, FnOk P w K mg base CX0 (n + 3) f fd ["tree", "one", "other"] (sp_lin K n)
  | 0 => by
    refine D.F.ok sc_level_in (fun vs H Q E h => ?_) (fun cdv A outer s H vs Q E hr h => ?_)
    · obtain ⟨v, t, S, i, j, rfl, _⟩ := h
      rfl
    · obtain ⟨v, t, S, i, j, rfl, hT, h20, hi, hj, hne, q⟩ := h
      obtain ⟨m, p, l, vs, Ss, e, _⟩ := hT.both hi hj hne
      exact absurd e (by omega)
  | n + 1 => by
    have GI : FnOk P w K mg base CX0 (n + 3) fI fdI ["tree"] (sp_titems K n) := (ok_titems DI DW B n).mono (by omega)
    have G := ok_lin D DI DW B n
    refine D.F.ok sc_level_in (fun vs H Q E h => ?_) (fun cdv A outer s H vs Q E hr h => ?_)
    · obtain ⟨v, t, S, i, j, rfl, _⟩ := h
      rfl
    · obtain ⟨v, t, S, i, j, rfl, hT, h20, hi, hj, hne, q⟩ := h
      have nd := sc_level_in.nd
      refine ⟨_, pss_cons (ps_for PassesOwn.never rfl (pi_tup (pe_slice sl_tupW (pv 0) (po_some pe_int) po_none)) (pg_name (i := 3) nd rfl (.inl rfl))
          (pss_cons (ps_set (i := 4) nd rfl (.inl rfl) (pe_cl DI GI hr (pa_cons (pv 3) pa_nil)))
          (pss_one (ps_if (PW.pt (pw_and (pt_cmpR op_in_seq (pv 1) (pv 4) rfl) (pw_and1 (pt_cmpR op_in_seq (pv 2) (pv 4) rfl)))) (pss_one (ps_ret (pe_cl D G hr (pa_cons (pv 3) (pa_cons (pv 1) (pa_cons (pv 2) pa_nil)))))) pss_nil))))
        (pss_one (ps_ret (pe_ix ix_tup (pv 0) pe_int (fun _ _ => rfl)))), ?_⟩
      obtain ⟨m, p, l, vs, Ss, e, rfl, hp, hl, hk, ok⟩ := hT.both hi hj hne
      obtain rfl : m = n := by omega
      refine ⟨.ref p, rfl, _, rfl, p, _, rfl, hp, fun sl H1 s1 hsl => ?_⟩
      rw [cut1] at hsl
      refine ⟨sl, rfl, ⟨_, hsl⟩, for_tup (xs := vs) (fun k σ Hx => ∃ x3 x4, σ = [some (.ref p), some (.int (i : Int)), some (.int (j : Int)), x3, x4] ∧ (∀ (k' : Nat) (P' : List Nat), k' < k → Ss[k']? = some P' → i ∈ P' → j ∉ P') ∧ Sm H1 Hx) ⟨none, none, rfl, fun k' P' h => by omega, Sm.refl _⟩ (fun k σ Hx _ hI => ?_) (fun k u σ Hx hu hI => ?_) (fun σ Hx hI => ?_)⟩
      · obtain ⟨_, _, _, _, sx⟩ := hI
        exact sx.sqT hsl
      · obtain ⟨x3, x4, rfl, seen, sx⟩ := hI
        have hkl : k < vs.length := (List.getElem?_eq_some_iff.mp hu).1
        obtain ⟨P', hP'⟩ : ∃ P', Ss[k]? = some P' := ⟨_, List.getElem?_eq_getElem (by omega)⟩
        have hTk := (hk k u P' hu hP').same (s1.trans sx)
        have lp := (ok.lt P' (List.mem_of_getElem? hP')).2
        refine ⟨u, rfl, u, t, P', rfl, hTk, by omega, fun H2 rp ms s2 nrp hrp hms => ?_⟩
        have next : (i ∈ P' → j ∉ P') → ∀ Hz, Sm H2 Hz → ∃ x3 x4, ([some (V.ref p), some (.int (i : Int)), some (.int (j : Int)), some u, some (.ref rp)] : L2.St) = [some (.ref p), some (.int (i : Int)), some (.int (j : Int)), x3, x4] ∧ (∀ (k' : Nat) (P' : List Nat), k' < k + 1 → Ss[k']? = some P' → i ∈ P' → j ∉ P') ∧ Sm H1 Hz := fun z Hz sz => ⟨_, _, rfl, fun k' Q' hk' hQ' => by
          by_cases e : k' = k
          · subst e
            obtain rfl : Q' = P' := Option.some.inj (hQ'.symm.trans hP')
            exact z
          · exact seen k' Q' (by omega) hQ', sx.trans (s2.trans sz)⟩
        refine ⟨.int (i : Int), rfl, .ref rp, rfl, rp, _, rfl, .inl (SqL.of hrp), rfl, int_flat ms, decide (i ∈ P'), by rw [← hasI_in hms i]; rfl, ?_⟩
        by_cases hiP : i ∈ P'
        · rw [decide_eq_true hiP]
          show _
          refine ⟨.int (j : Int), rfl, .ref rp, rfl, rp, _, rfl, .inl (SqL.of hrp), rfl, int_flat ms, decide (j ∈ P'), by rw [← hasI_in hms j]; rfl, ?_⟩
          by_cases hjP : j ∈ P'
          · rw [decide_eq_true hjP]
            show _
            exact ⟨u, rfl, .int (i : Int), rfl, .int (j : Int), rfl, u, t, P', i, j, rfl, hTk.same s2, by omega, hiP, hjP, hne, fun H3 s3 => q H3 (s1.trans (sx.trans (s2.trans s3)))⟩
          · rw [decide_eq_false hjP]
            exact next (fun _ => hjP) H2 (Sm.refl _)
        · rw [decide_eq_false hiP]
          exact next (fun z => absurd z hiP) H2 (Sm.refl _)
      · obtain ⟨x3, x4, rfl, seen, sx⟩ := hI
        have el : lev t i j = l := ok.diff i j hi hj hne fun P' hP' hiP => by
          obtain ⟨k', hk', e'⟩ := List.getElem_of_mem hP'
          exact seen k' P' (by omega) (by rw [List.getElem?_eq_getElem hk', e']) hiP
        rw [el] at q
        exact ⟨.ref p, rfl, p, _, _, _, rfl, rfl, (s1.trans sx).sqT hp, atI_nat (j := 0) rfl, q Hx (s1.trans sx)⟩
/-! ### the program: the table of a tree -/
def sp_tof (K : PySem.W.Frag) (n : Nat) : Sp := fun vs H Q _ => ∃ (v : V) (t : List (List Int)) (S : List Nat), vs = [v] ∧ TrV K H t n S v ∧ (∀ x, x ∈ S ↔ x < t.length) ∧ S.length = t.length ∧ WT t ∧ t.length ≤ 20 ∧
  ∀ (H' : Hp) (u : V), Sm H H' → TT K H' u t → Q u H'
theorem row_lv {t : List (List Int)} (h : WT t) {i : Nat} (hi : i < t.length) : t[i]? = some ((List.range i).map (lev t i)) := by
  have e : t[i]? = some t[i] := List.getElem?_eq_getElem hi
  obtain ⟨l1, _⟩ := h i _ e
  rw [e]
  congr 1
  refine List.ext_getElem? fun j => ?_
  by_cases hj : j < i
  · rw [List.getElem?_map, List.getElem?_range hj]
    have : lev t i j = t[i].getD j 0 := by
      unfold lev
      rw [if_neg (by omega), Nat.max_eq_left (by omega), Nat.min_eq_right (by omega), List.getD_eq_getElem?_getD (l := t), e]
      rfl
    rw [getD_at (by omega)]
    exact congrArg some this.symm
  · rw [List.getElem?_eq_none (by omega), List.getElem?_eq_none (by simp; omega)]
theorem ok_tof {f fL fI fW : Addr} {fd fdL fdI fdW : FuncData} (F : Fun K "table_of" "table_of" s_table_of f fd) (DL : Df K mg "level_in" s_level_in fL fdL ["tree", "one", "other"]) (DI : Df K mg "items_of" s_items_of fI fdI ["tree"]) (DW : Df K mg "is_whole" s_is_whole fW fdW ["value"]) (B : Bi mg) (n : Nat) : FnOk P w K mg base CX0 (n + 4) f fd ["tree"] (sp_tof K n) := by
  have GI : FnOk P w K mg base CX0 (n + 3) fI fdI ["tree"] (sp_titems K n) := (ok_titems DI DW B n).mono (by omega)
  have GL := ok_lin (P := P) (w := w) (base := base) DL DI DW B n
  refine F.ok sc_table_of (fun vs H Q E h => ?_) (fun cdv A outer s H vs Q E hr h => ?_)
  · obtain ⟨v, t, S, rfl, _⟩ := h
    rfl
  · obtain ⟨v, t, S, rfl, hT, hS, hSl, hW, h20, q⟩ := h
    have nd := sc_table_of.nd
    refine ⟨_, pss_cons (ps_set (i := 1) nd rfl (.inl rfl) (pe_len B (pe_cl DI GI hr (pa_cons (pv 0) pa_nil))))
      (pss_one (ps_ret (pe_callTy call_tuple_of (by rfl) B.tuple (by decide +kernel) (pa_cons
        (pe_lc (own := [("one", 2)]) (g := gName 2) (tt := tYes) rfl nd (pi_range1 rfl B.range (pa_cons (pv 1) pa_nil)) (blkOk_by (N := N_table_of) (sc := defScope s_table_of) (by decide +kernel))
          (fun _ _ _ _ _ => pg_name (i := 2) nd rfl (.inr rfl)) (fun _ _ _ _ _ => pts_nil)
          (te := tCB (rTup K) (tCons (tLc (iRng1 (tCons (tVar 2) tNil)) (gName 3) tYes (tCall (sp_lin K n) [] E0 (tCons (tVar 0) (tCons (tVar 2) (tCons (tVar 3) tNil)))) [3]) tNil))
          (fun _ _ _ _ _ => pe_callTy call_tuple_of (by rfl) B.tuple (by decide +kernel) (pa_cons
            (pe_lc (own := [("other", 3)]) (g := gName 3) (tt := tYes) rfl nd (pi_range1 rfl B.range (pa_cons (pv 2) pa_nil)) (blkOk_by (N := N_table_of) (sc := relS (lcScope (argE (stE (stAt (defBody s_table_of) 1)))) (defScope s_table_of)) (by decide +kernel))
              (fun _ _ _ _ _ => pg_name (i := 3) nd rfl (.inl rfl)) (fun _ _ _ _ _ => pts_nil)
              (fun _ _ _ _ _ => pe_cl DL GL hr (pa_cons (pv 0) (pa_cons (pv 2) (pa_cons (pv 3) pa_nil))))) pa_nil))) pa_nil)))), ?_⟩
    refine ⟨v, rfl, v, t, S, rfl, hT, by omega, fun H1 rp ms s1 nrp hrp hms => ?_⟩
    have hml := hms.1
    refine ⟨rp, _, rfl, .inl (SqL.of hrp), ?_⟩
    refine ⟨_, rfl, _, rfl, by rw [List.length_map]; omega, by rw [List.length_map]; omega, fun D hDn => ?_⟩
    rw [show (((ms.map V.int).length : Nat) : Int).toNat = t.length by rw [List.length_map]; omega]
    refine lc_range (n := t.length) (lo := 0) (fun i Hx => ∃ xs, Hx D = some (.lst xs) ∧ Rows K Hx xs (t.take i) ∧ Sm H1 Hx) ⟨[], upd_same, by rw [List.take_zero]; exact Rows.nil, Sm.new hDn⟩ (fun i Hx hi hP => ?_) (fun Hx hP => ?_)
    · obtain ⟨xs, k1, k2, sx⟩ := hP
      rw [Int.zero_add]
      refine ⟨rfl, .int (i : Int), rfl, _, rfl, by omega, by omega, fun D2 hD2 => ?_⟩
      rw [show (i : Int).toNat = i by omega]
      refine lc_range (n := i) (lo := 0) (fun j Hy => Hy D2 = some (.lst (((List.range j).map (lev t i)).map V.int)) ∧ Sm Hx Hy) ⟨upd_same, Sm.new hD2⟩ (fun j Hy hj hP => ?_) (fun Hy hP => ?_)
      · obtain ⟨g1, g2⟩ := hP
        rw [Int.zero_add]
        refine ⟨rfl, v, rfl, .int (i : Int), rfl, .int (j : Int), rfl, v, t, S, i, j, rfl, hT.same (s1.trans (sx.trans g2)), by omega, (hS i).mpr hi, (hS j).mpr (by omega), by omega, fun H3 s3 => ?_⟩
        refine ⟨_, s3 _ _ g1, by simp; exact small1000 (by omega), ?_, ?_⟩
        · rw [upd_same, range_map_succ, List.map_append]
          rfl
        · intro b u e
          rw [upd_ne (ne_of_none e hD2)]
          exact s3 _ _ (g2 b u e)
      · obtain ⟨g1, g2⟩ := hP
        refine ⟨D2, _, rfl, .inl ⟨SqL.of g1, fun l hl' => ?_⟩⟩
        have s3 := g2.trans (Sm.new (o := .tup (((List.range i).map (lev t i)).map V.int)) hl')
        have hxl := k2.1
        rw [List.length_take] at hxl
        refine ⟨_, s3 _ _ k1, small1000 (by omega), _, upd_same, ?_, ?_⟩
        · rw [List.take_add_one, row_lv hW hi]
          exact ((k2.same s3).snoc ⟨l, rfl, SqT.of upd_same⟩).upd (s3 _ _ k1)
        · intro c z e
          rw [upd_ne (ne_of_none e hDn)]
          exact s3 _ _ (sx c z e)
    · obtain ⟨xs, k1, k2, sx⟩ := hP
      rw [List.take_length] at k2
      refine ⟨D, _, rfl, .inl ⟨SqL.of k1, fun l hl => ?_⟩⟩
      exact q _ _ (s1.trans (sx.trans (Sm.new hl))) ⟨l, xs, rfl, SqT.of upd_same, k2.same (Sm.new hl)⟩
end
theorem flat_pre {js : List (List Int)} {i : Nat} {ns : List Int} (h : js[i]? = some ns) : (js.take (i + 1)).flatten = (js.take i).flatten ++ ns ∧ (js.take i).flatten.length + ns.length ≤ js.flatten.length := by
  have e : (js.take (i + 1)).flatten = (js.take i).flatten ++ ns := by
    rw [List.take_add_one, h, List.flatten_append]
    simp
  refine ⟨e, ?_⟩
  have e2 : js.flatten = (js.take (i + 1)).flatten ++ (js.drop (i + 1)).flatten := by
    rw [← List.flatten_append, List.take_append_drop]
  rw [e2, e, List.length_append, List.length_append]
  omega
theorem two_len {t : List (List Int)} {S : List Nat} {l : Int} {Ss : List (List Nat)} (ok : NodeOk t S l Ss) : Ss.length ≤ S.length := by
  have h : ∀ L : List (List Nat), (∀ P ∈ L, 0 < P.length) → L.length ≤ (L.map List.length).sum := fun L => by
    induction L with
    | nil => intro _; exact Nat.le_refl _
    | cons P L ih =>
      intro z
      have z1 := z P List.mem_cons_self
      have z2 := ih fun Q hQ => z Q (List.mem_cons_of_mem _ hQ)
      rw [List.map_cons, List.sum_cons, List.length_cons]
      omega
  rw [ok.len]
  exact h Ss fun P hP => (ok.lt P hP).1
section
variable {P : Program} {w : World} {K : PySem.W.Frag} {mg : Str → Option Value} {base : Heap}
/-! ### the program: the tree of a table -/
def sp_treeof (K : PySem.W.Frag) : Sp := fun vs H Q _ => ∃ (tv : V) (t : List (List Int)), vs = [tv] ∧ TT K H tv t ∧ WT t ∧ 1 ≤ t.length ∧ t.length ≤ 20 ∧
  ∀ (H' : Hp) (v : V), Sm H H' → TrV K H' (jtab t) (t.length - 1) (List.range t.length) v → Q v H'
theorem ok_treeof {f fJ fS : Addr} {fd fdJ fdS : FuncData} (F : Fun K "tree_of" "tree_of" s_tree_of f fd) (DJ : Df K mg "joins_of" s_joins_of fJ fdJ ["table"]) (DS : Df K mg "steps_of" s_steps_of fS fdS ["grid"]) (T : GroupDefs K mg) : FnOk P w K mg base CX0 5 f fd ["table"] (sp_treeof K) := by
  have B := T.G.B
  have GJ : FnOk P w K mg base CX0 4 fJ fdJ ["table"] (sp_joinsOf K) := ok_joinsOf DJ.F DS T
  refine F.ok sc_tree_of (fun vs H Q E h => ?_) (fun cdv A outer s H vs Q E hr h => ?_)
  · obtain ⟨tv, t, rfl, _⟩ := h
    rfl
  · obtain ⟨tv, t, rfl, hT, hW, hn1, h20, q⟩ := h
    have nd := sc_tree_of.nd
    refine ⟨_, pss_cons (ps_set (i := 1) nd rfl (.inr rfl) (pe_dt (own := [("item", 6)]) (g := gName 6) (tt := tYes) rfl hr.units nd (pi_range1 rfl B.range (pa_cons (pe_len B (pv 0)) pa_nil)) (blkOk_by (N := N_tree_of) (sc := defScope s_tree_of) (by decide +kernel))
        (fun _ _ _ _ _ => pg_name (i := 6) nd rfl (.inl rfl)) (fun _ _ _ _ _ => pts_nil) (fun _ _ _ _ _ => pe_tup (pa_cons (pv 6) pa_nil)) (fun _ _ _ _ _ => pv 6)))
      (pss_cons (ps_for PassesOwn.never rfl (pi_tup (pe_cl DJ GJ hr (pa_cons (pv 0) pa_nil))) (pg_tup rfl (pgs_cons (pg_name (i := 2) nd rfl (.inl rfl)) (pgs_cons (pg_name (i := 3) nd rfl (.inl rfl)) pgs_nil)))
        (pss_cons (ps_set (i := 4) nd rfl (.inl rfl) (pe_callTy call_tuple_of (by rfl) B.tuple (by decide +kernel) (pa_cons (pe_callB cr_sorted (by rfl) B.sorted (by decide +kernel) (pa_cons
          (pe_lc2 (own := [("part", 7), ("item", 6)]) (vs1 := [6]) (g := gName 7) (g1 := gName 6) (tt := tYes) (tt1 := tYes) (wi1 := iTup K (tVar 7)) rfl nd (pi_tup (pv 3)) (blkOk_by (N := N_tree_of) (sc := defScope s_tree_of) (by decide +kernel)) (by decide)
            (fun _ _ _ _ _ => pg_name (i := 7) nd rfl (.inl rfl)) (fun _ _ _ _ _ => pts_nil) (fun _ _ _ _ _ => pi_tup (pv 7))
            (fun _ _ _ _ _ => pg_name (i := 6) nd rfl (.inl rfl)) (fun _ _ _ _ _ => pts_nil) (fun _ _ _ _ _ => pv 6)) pa_nil)) pa_nil)))
        (pss_cons (ps_setLc (i := 5) (own := [("part", 7)]) (g := gName 7) (tt := tYes) (te := tDSq K (tVar 1) (tVar 7)) rfl nd rfl rfl (sw_true rfl rfl rfl (by decide +kernel)) (pi_tup (pv 3)) (blkOk_by (N := N_tree_of) (sc := defScope s_tree_of) (by decide +kernel))
            (fun _ _ _ _ _ => pg_name (i := 7) nd rfl (.inl rfl)) (fun _ _ _ _ _ => pts_nil) (fun _ _ _ _ _ => pe_dsq (hu_of hr) (pv 1) (pv 7) (fun _ _ => rfl)))
        (pss_one (ps_dput (hu_of hr) (pv 1) (pv 4) (pe_tup (pa_cons (pv 2) (StX.pa_star (pv 5) pa_nil))) rfl)))))
      (pss_one (ps_ret (pe_dsq (hu_of hr) (pv 1) (pe_tupRg rfl (by rfl) B.tuple (prg_1 (by rfl) B.range (pe_len B (pv 0)))) (fun _ _ => rfl))))), ?_⟩
    obtain ⟨tp, rs, rfl, htp, hR⟩ := id hT
    have hrl := hR.1
    have U := jn_ulF hW
    -- a dict of the items
    refine ⟨.ref tp, rfl, tp, rs, rfl, .inr htp, _, rfl, by omega, by omega, fun D hDn => ?_⟩
    rw [show (rs.length : Int).toNat = t.length by omega]
    refine dt_it (walk_range (lo := 0) (n := t.length)) (fun i Hx => ∃ kvs : List (List Key × V), Hx D = some (.dT kvs) ∧ kvs.length ≤ i ∧ (∀ k, k < i → valV kvs (KK [k]) = some (.int (k : Int))) ∧ Sm H Hx) ⟨[], upd_same, Nat.le_refl _, fun k hk => by omega, Sm.new hDn⟩ (fun _ _ _ _ => trivial) (fun i x Hx Hx' hi hP hY => ?_) (fun H1 hP => ?_)
    · obtain ⟨rfl, hY⟩ := hY
      obtain rfl : x = .int (i : Int) := hY.trans (congrArg V.int (Int.zero_add _))
      obtain ⟨kvs, k1, k2, k3, sx⟩ := hP
      refine ⟨rfl, .int (i : Int), rfl, (by show 1 ≤ sizeLine; decide), fun p hp => ⟨.int (i : Int), rfl, kvs, KK [i], p, rfl, upd_same, Sm.new hp _ _ k1, small1000 (by omega), _, upd_same, ?_, fun k hk => ?_, ?_⟩⟩
      · have := length_putK kvs (KK [i]) (.int (i : Int))
        omega
      · rw [valV_put]
        by_cases e : k = i
        · subst e
          rw [if_pos rfl]
        · rw [if_neg fun z => e (by have := KK_inj z; simpa using this)]
          exact k3 k (by omega)
      · intro b o e
        rw [upd_ne (ne_of_none e hDn)]
        exact Sm.new hp _ _ (sx b o e)
    obtain ⟨kvs0, hD1, len1, val1, s1⟩ := hP
    -- its joins
    refine ⟨.ref tp, rfl, .ref tp, t, rfl, hT.same s1, hW, h20, fun H2 jv js s2 hJ asc all => ?_⟩
    obtain ⟨jp, us, rfl, hjp, hJR⟩ := hJ
    have hD2 := s2 _ _ hD1
    have jfew := joins_few U (jlt_nodup asc) fun j hj => (all j).mp hj
    have hul := hJR.1
    have start : Trees K H2 t js 0 kvs0 := ⟨by omega, fun g hg => by
      rcases hg with ⟨i, hi, rfl⟩ | ⟨i, x, _, _, _, m, _⟩
      · exact ⟨_, val1 i hi, .leaf _ i (by omega)⟩
      · simp at m⟩
    have back : ∀ {Hx : Hp}, Off D H2 Hx → Sm H Hx := fun {Hx} e b o hb => e b o (s2 _ _ (s1 _ _ hb)) (ne_of_none hb hDn)
    refine ⟨jp, rfl, ⟨_, hjp⟩, for_tup (xs := us) (fun m σ Hx => ∃ (x2 x3 x4 x5 : Option V) (kvs : List (List Key × V)), σ = [some (.ref tp), some (.ref D), x2, x3, x4, x5, none, none] ∧ Hx D = some (.dT kvs) ∧ Trees K Hx t js m kvs ∧ Off D H2 Hx) ⟨none, none, none, none, kvs0, rfl, hD2, start, (Sm.refl H2).off⟩ (fun m σ Hx _ hI => ?_) (fun m u σ Hx hu hI => ?_) (fun σ Hx hI => ?_)⟩
    · obtain ⟨_, _, _, _, _, _, _, _, ox⟩ := hI
      exact ox.sqT' hD2 hjp
    · obtain ⟨x2, x3, x4, x5, kvs, rfl, hDx, tr, ox⟩ := hI
      have hml : m < js.length := by
        have := (List.getElem?_eq_some_iff.mp hu).1
        omega
      obtain ⟨j, hj⟩ : ∃ j, js[m]? = some j := ⟨_, List.getElem?_eq_getElem hml⟩
      obtain ⟨i, x, hi, hx, ne, rfl⟩ := (all j).mp (List.mem_of_getElem? hj)
      have h1 : 1 ≤ jn t i x := U.pos i x hi hx ne
      obtain ⟨p, qv, rfl, hp, qp, prs, rfl, hqp, hPR⟩ := ox.jt' hD2 (hJR.2 m u _ hu hj)
      have node := join_node hW hi hx ne
      have has := fun {P'} hP' => part_has U asc all hi hx ne hj (P := P') hP'
      have srt := fun {ms : List Int} a b => sorted_grp U h1 hi (ms := ms) a b
      have put := fun {H' : Hp} {kvs' : List (List Key × V)} (h : Trees K H' t js m kvs') {v : V} hv => Trees.put hW asc h hi hx ne hj (v := v) hv
      have pm := parts_perm U h1 hi
      have g20 : (grp (jn t) t.length (jn t i x) i).length ≤ 20 := Nat.le_trans (grp_len _ _ _ _) h20
      have ej2 : (joinG (jn t) t.length (jn t i x) (grp (jn t) t.length (jn t i x) i)).2 = (partsN (jn t) t.length (jn t i x) (grp (jn t) t.length (jn t i x) i)).map iL := rfl
      have ej1 : (joinG (jn t) t.length (jn t i x) (grp (jn t) t.length (jn t i x) i)).1 = jn t i x := rfl
      rw [ej2] at hPR
      rw [ej1] at hp
      generalize hPs : partsN (jn t) t.length (jn t i x) (grp (jn t) t.length (jn t i x) i) = Ps at *
      generalize hg : grp (jn t) t.length (jn t i x) i = g at *
      generalize hl : jn t i x = l at *
      clear hPs hg hl
      have fl20 : (Ps.map iL).flatten.length ≤ 20 := by
        rw [iL_flat, List.length_map, pm.length_eq]
        exact g20
      have hpl : prs.length = Ps.length := by
        have := hPR.1
        rwa [List.length_map] at this
      refine ⟨p, _, rfl, hp, rfl, _, _, rfl, _, _, rfl, rfl, ?_⟩
      -- the cluster
      refine ⟨.ref qp, rfl, qp, rfl, ⟨_, hqp⟩, fun E1 hE1 => w_it (walk_tup (xs := prs)) (fun k Hy => Hy E1 = some (.lst ((((Ps.map iL).take k).flatten).map V.int)) ∧ Sm Hx Hy) ⟨upd_same, Sm.new hE1⟩ (fun k Hy _ hP => hP.2.sqT hqp) (fun k y Hy Hy' hk hP hY => ?_) (fun Hy hP => ?_)⟩
      · obtain ⟨rfl, hy⟩ := hY
        obtain ⟨k1, k2⟩ := hP
        obtain ⟨ns, hns, pp, rfl, hpp⟩ := hPR.mem hy
        obtain ⟨f1, f2⟩ := flat_pre hns
        refine ⟨rfl, .ref pp, rfl, pp, rfl, ⟨_, k2.sqT hpp⟩, w_it (walk_tup (xs := ns.map V.int)) (fun r Hz => Hz E1 = some (.lst ((((Ps.map iL).take k).flatten ++ ns.take r).map V.int)) ∧ Sm Hx Hz) ⟨by rw [List.take_zero, List.append_nil]; exact k1, k2⟩ (fun r Hz _ hP => hP.2.sqT hpp) (fun r z Hz Hz' hr' hP hY => ?_) (fun Hz hP => ?_)⟩
        · obtain ⟨rfl, hz⟩ := hY
          obtain ⟨j1, j2⟩ := hP
          rw [List.getElem?_map] at hz
          obtain ⟨c, hc, rfl⟩ := Option.map_eq_some_iff.mp hz
          refine ⟨rfl, .int c, rfl, _, j1, ?_, ?_, ?_⟩
          · rw [List.length_map, List.length_append, List.length_take]
            exact small1000 (by omega)
          · rw [upd_same, List.take_add_one, hc, ← List.append_assoc, List.map_append (l₂ := (some c).toList)]
            rfl
          · intro b o e
            rw [upd_ne (ne_of_none e hE1)]
            exact j2 b o e
        · obtain ⟨j1, j2⟩ := hP
          rw [List.length_map, List.take_length, ← f1] at j1
          exact ⟨j1, j2⟩
      obtain ⟨k1, k2⟩ := hP
      rw [hpl, ← List.length_map (f := iL), List.take_length] at k1
      refine ⟨E1, _, rfl, SqL.of k1, by omega, fun ms p4 pms sms hp4 => ?_⟩
      obtain rfl := srt sms pms
      refine ⟨p4, _, rfl, .inl ⟨SqL.of upd_same, fun c hc => ?_⟩⟩
      have s4 := k2.trans ((Sm.new (o := .lst ((iL g).map V.int)) hp4).trans (Sm.new (o := .tup ((iL g).map V.int)) hc))
      have hcc : (upd (upd Hy p4 (.lst ((iL g).map V.int))) c (.tup ((iL g).map V.int))) c = some (.tup ((iL g).map V.int)) := upd_same
      generalize upd (upd Hy p4 (.lst ((iL g).map V.int))) c (.tup ((iL g).map V.int)) = H4 at s4 hcc
      -- the trees below
      refine ⟨.ref qp, rfl, qp, rfl, ⟨_, s4.sqT hqp⟩, fun E2 hE2 => lc_tup (xs := prs) (fun k Hy => ∃ acc : List V, Hy E2 = some (.lst acc) ∧ acc.length = k ∧ (∀ (r : Nat) v P', acc[r]? = some v → Ps[r]? = some P' → TrV K Hy (jtab t) (P'.length - 1) P' v) ∧ Sm H4 Hy) ⟨[], upd_same, rfl, fun r v P' e => by simp at e, Sm.new hE2⟩ (fun k Hy _ hP => ?_) (fun k y Hy hy hP => ?_) (fun H5 hP => ?_)⟩
      · obtain ⟨_, _, _, _, sy⟩ := hP
        exact sy.sqT (s4.sqT hqp)
      · obtain ⟨acc, a1, a2, a3, sy⟩ := hP
        obtain ⟨ns, hns, pp, rfl, hpp⟩ := hPR.mem hy
        rw [List.getElem?_map] at hns
        obtain ⟨P', hP', rfl⟩ := Option.map_eq_some_iff.mp hns
        obtain ⟨v, hv, hTv⟩ := tr.2 P' (has (List.mem_of_getElem? hP'))
        have s5 := s4.trans sy
        have hkp := (List.getElem?_eq_some_iff.mp hP').1
        refine ⟨rfl, .ref D, rfl, .ref pp, rfl, D, pp, kvs, KK P', v, rfl, rfl, s5 _ _ hDx, by rw [KK_kV]; exact s5.sqT hpp, hv, acc, a1, small1000 ?_, acc ++ [v], upd_same, by rw [List.length_append, a2]; rfl, fun r u P2 e1 e2 => ?_, ?_⟩
        · have b1 : Ps.length ≤ 20 := by
            have a1 := two_len node
            omega
          omega
        · by_cases hrl' : r < acc.length
          · rw [List.getElem?_append_left hrl'] at e1
            exact (a3 r u P2 e1 e2).upd a1
          · obtain rfl : r = acc.length := by
              have := (List.getElem?_eq_some_iff.mp e1).1
              rw [List.length_append] at this
              have z : [v].length = 1 := rfl
              omega
            rw [List.getElem?_append_right (Nat.le_refl _), Nat.sub_self] at e1
            cases e1
            rw [a2, hP'] at e2
            cases e2
            exact (hTv.same s5).upd a1
        · intro b o e
          rw [upd_ne (ne_of_none e hE2)]
          exact sy b o e
      obtain ⟨acc, a1, a2, a3, s5⟩ := hP
      have s45 := s4.trans s5
      have b1 : Ps.length ≤ 20 := by
        have a1 := two_len node
        omega
      refine ⟨.int l, rfl, .ref E2, rfl, E2, acc, rfl, .inr (SqL.of a1), ?_⟩
      refine ⟨Nat.le_of_lt (small1000 (by show (acc ++ []).length + 1 ≤ 1000; rw [List.append_nil]; omega)), fun p6 hp6 => ?_⟩
      have s6 := Sm.new (o := .tup (V.int l :: (acc ++ []))) hp6
      rw [List.append_nil] at s6 ⊢
      have hD6 := s6 _ _ (s45 _ _ hDx)
      refine ⟨.ref D, rfl, .ref c, rfl, D, _, rfl, DPut.t (k := KK g) hD6 (by rw [KK_kV]; exact s6 _ _ (s5 _ _ hcc)) (small1000 ?_), ?_⟩
      · have := tr.1
        omega
      have hnode : TrV K (upd H5 p6 (.tup (V.int l :: acc))) (jtab t) (g.length - 1) g (.ref p6) := by
        have g2 := node.two
        obtain ⟨e, he⟩ : ∃ e, g.length - 1 = e + 1 := ⟨g.length - 2, by omega⟩
        rw [he]
        refine .node (vs := acc) (Ss := Ps) (SqT.of upd_same) (by omega) (fun k v P' e1 e2 => ?_) node
        have := node.lt P' (List.mem_of_getElem? e2)
        exact ((a3 k v P' e1 e2).same s6).mono (by omega)
      have tr6 := put (tr.same (s45.trans s6)) hnode
      have o6 : Off D (upd H5 p6 (.tup (V.int l :: acc))) (upd (upd H5 p6 (.tup (V.int l :: acc))) D (.dT (putK kvs (KK g) (.ref p6)))) := Off.upd
      exact ⟨_, _, _, _, _, rfl, upd_same, tr6.off o6 hD6, (ox.trans (s45.trans s6).off).trans o6⟩
    · obtain ⟨x2, x3, x4, x5, kvs, rfl, hDx, tr, ox⟩ := hI
      rw [hul] at tr
      obtain ⟨v, hv, hTv⟩ := tr.2 _ (all_has U (by omega) all)
      rw [List.length_range] at hTv
      refine ⟨.ref D, rfl, .ref tp, rfl, tp, rs, rfl, .inr (ox.sqT' hD2 ((s1.trans s2).sqT htp)), _, rfl, RgOk.of_le (by decide) (by omega) (by decide) (by omega), fun c hc => ?_⟩
      have sc := Sm.new (o := .tup (rgV 0 (rs.length : Int))) hc
      refine ⟨D, c, kvs, KK (List.range t.length), v, rfl, rfl, sc _ _ hDx, ?_, hv, q _ _ ((back ox).trans sc) (hTv.same sc)⟩
      rw [KK_kV]
      have er : rgV 0 (rs.length : Int) = (iL (List.range t.length)).map V.int := by
        rw [hrl]
        unfold rgV iL
        rw [show ((t.length : Int) - 0).toNat = t.length by omega, List.map_map]
        refine List.map_congr_left fun i _ => ?_
        rw [Int.zero_add]
        rfl
      rw [← er]
      exact SqT.of upd_same
end
section
variable {P : Program} {w : World} {K : PySem.W.Frag} {mg : Str → Option Value} {base : Heap}
/-! ### a drawn order -/
abbrev nI (os : List Nat) : List V := os.map fun i : Nat => V.int (i : Int)
theorem nI_at {os : List Nat} {k : Nat} (h : k < os.length) : (nI os)[k]? = some (.int ((os.getD k 0 : Nat) : Int)) := by
  unfold nI
  rw [List.getElem?_map, List.getD_eq_getElem?_getD, List.getElem?_eq_getElem h]
  rfl
end
section
variable {P : Program} {w : World} {K : PySem.W.Frag} {mg : Str → Option Value} {base : Heap}
/-! ### the program: values judged as trees -/
def sp_islT : Sp := fun vs H Q _ => ∃ x : Int, vs = [.int x] ∧ LvOk x ∧ Q (.bl true) H
theorem ok_islT {f fW : Addr} {fd fdW : FuncData} (F : Fun K "is_level" "is_level" s_is_level f fd) (DW : Df K mg "is_whole" s_is_whole fW fdW ["value"]) (gL : ∃ t, mg "LEVEL" = some (.int 1000000000000 t)) (B : Bi mg) : FnOk P w K mg base CX0 2 f fd ["value"] sp_islT := by
  obtain ⟨tL, gL⟩ := gL
  have GW : FnOk P w K mg base CX0 1 fW fdW ["value"] (sp_whole2 K) := ok_whole2 DW.F B
  refine F.ok sc_is_level (fun vs H Q E h => ?_) (fun cdv A outer s H vs Q E hr h => ?_)
  · obtain ⟨x, rfl, _⟩ := h
    rfl
  · obtain ⟨x, rfl, hx, q⟩ := h
    refine ⟨_, pss_one (ps_ret (pe_and (pe_cl DW GW hr (pa_cons (pv 0) pa_nil)) (pe_one (pe_chain op_le op_le pe_int (pv 0) (pe_glob (v := .int 1000000000000) rfl gL ⟨_, rfl⟩))))), ?_⟩
    refine ⟨.int x, rfl, .int x, rfl, .inl ⟨x, rfl, true, rfl, .int x, rfl, _, _, rfl, rfl, true, ?_, _, _, rfl, rfl, ?_⟩⟩
    · exact congrArg V.bl (decide_eq_true hx.1)
    · show Q (V.bl (decide (x ≤ (1000000000000 : Int)))) H
      rw [decide_eq_true hx.2]
      exact q
/-- a part's items are nearer than the level above -/
theorem Can.near {t : List (List Int)} (hU : Ultra t) {S : List Nat} (hS : ∀ x ∈ S, x < t.length) {l : Int} {Ss : List (List Nat)} (c : Can t S l Ss) {Q : List Nat} (hQ : Q ∈ Ss) : Q.Pairwise (· < ·) ∧ (∀ x ∈ Q, x ∈ S) ∧ ∀ x ∈ Q, ∀ y ∈ Q, lev t x y < l := by
  obtain ⟨a, ha, rfl⟩ := c.cls Q hQ
  refine ⟨c.asc.filter _, fun x hx => (List.mem_filter.mp hx).1, fun x hx y hy => ?_⟩
  obtain ⟨hx1, hx2⟩ := List.mem_filter.mp hx
  obtain ⟨hy1, hy2⟩ := List.mem_filter.mp hy
  have hx2 := of_decide_eq_true hx2
  have hy2 := of_decide_eq_true hy2
  have u := hU x a y (hS x hx1) (hS a ha) (hS y hy1)
  rw [lev_comm t x a] at u
  omega
theorem TrV.asc {H : Hp} {t : List (List Int)} {n : Nat} {S : List Nat} {v : V} (h : TrV K H t n S v) : S.Pairwise (· < ·) := by
  cases h with
  | leaf n i hi => exact List.pairwise_singleton _ _
  | node h hl hk ok => exact ok.can.asc
theorem two_lenT {t : List (List Int)} {S : List Nat} {l : Int} {Ss : List (List Nat)} (ok : NodeOk t S l Ss) : Ss.length ≤ S.length := by
  have h : ∀ L : List (List Nat), (∀ P ∈ L, 0 < P.length) → L.length ≤ (L.map List.length).sum := fun L => by
    induction L with
    | nil => intro _; exact Nat.le_refl _
    | cons P L ih =>
      intro z
      have z1 := z P List.mem_cons_self
      have z2 := ih fun Q hQ => z Q (List.mem_cons_of_mem _ hQ)
      rw [List.map_cons, List.sum_cons, List.length_cons]
      omega
  rw [ok.len]
  exact h Ss fun P hP => (ok.lt P hP).1
def sp_part (K : PySem.W.Frag) (n : Nat) : Sp := fun vs H Q _ => ∃ (v : V) (above : Int) (t : List (List Int)) (S : List Nat), vs = [v, .int above] ∧ TrV K H t n S v ∧ Ultra t ∧ t.length ≤ 12 ∧ (∀ x ∈ S, x < t.length) ∧ S.length ≤ 12 ∧ (∀ x ∈ S, ∀ y ∈ S, lev t x y < above) ∧ ∀ H', Sm H H' → Q (.bl true) H'
theorem all_true (n : Nat) : ((List.replicate n true).all id) = true := by
  rw [List.all_replicate]
  simp
theorem ok_part {f fW fL fI : Addr} {fd fdW fdL fdI : FuncData} (D : Df K mg "is_part" s_is_part f fd ["value", "above"]) (DW : Df K mg "is_whole" s_is_whole fW fdW ["value"]) (DL : Df K mg "is_level" s_is_level fL fdL ["value"]) (DI : Df K mg "items_of" s_items_of fI fdI ["tree"])
    (gL : ∃ t, mg "LEVEL" = some (.int 1000000000000 t)) (gI : ∃ t, mg "ITEMS" = some (.int 12 t)) (B : Bi mg) : ∀ n, FnOk P w K mg base CX0 (n + 4) f fd ["value", "above"] (sp_part K n)
  | n => by
    have G : ∀ m, n = m + 1 → FnOk P w K mg base CX0 (n + 3) f fd ["value", "above"] (sp_part K m) := fun m e => by
      subst e
      exact ok_part D DW DL DI gL gI B m
    have GW : FnOk P w K mg base CX0 (n + 3) fW fdW ["value"] (sp_whole2 K) := ok_whole2 DW.F B
    have GL : FnOk P w K mg base CX0 (n + 3) fL fdL ["value"] sp_islT := (ok_islT DL.F DW gL B).mono (by omega)
    have GI : FnOk P w K mg base CX0 (n + 3) fI fdI ["tree"] (sp_titems K n) := (ok_titems DI DW B n).mono (by omega)
    obtain ⟨tI, gI⟩ := gI
    refine D.F.ok sc_is_part (fun vs H Q E h => ?_) (fun cdv A outer s H vs Q E hr h => ?_)
    · obtain ⟨v, above, t, S, rfl, _⟩ := h
      rfl
    · obtain ⟨v, above, t, S, rfl, hT, hU, ht12, hS, h12, hab, q⟩ := h
      have nd := sc_is_part.nd
      cases hT with
      | leaf n i hi =>
        refine ⟨_, pss_cons (ps_if (pt_val (pe_cl DW GW hr (pa_cons (pv 0) pa_nil))) (pss_one (ps_ret (pe_chain op_le op_lt pe_int (pv 0) (pe_glob (v := .int 12) rfl gI ⟨_, rfl⟩)))) pss_nil) pss_never, ?_⟩
        refine ⟨.int (i : Int), rfl, .int (i : Int), rfl, .inl ⟨_, rfl, true, rfl, ?_⟩⟩
        have := hS i List.mem_cons_self
        refine ⟨.int (i : Int), rfl, _, _, rfl, rfl, true, ?_, _, _, rfl, rfl, ?_⟩
        · exact congrArg V.bl (decide_eq_true (by omega))
        · show Q (V.bl (decide ((i : Int) < (12 : Int)))) H
          rw [decide_eq_true (by omega)]
          exact q _ (Sm.refl _)
      | node hp hl hk ok =>
        rename_i m p l vs Ss
        have GP := G m rfl
        refine ⟨_, pss_cons (ps_if (pt_val (pe_cl DW GW hr (pa_cons (pv 0) pa_nil))) pss_never pss_nil)
          (pss_cons (ps_if (PW.pt (pw_or (pt_not (pt_val (pe_callB call_isi (by rfl) B.isinstance (by decide +kernel) (pa_cons (pv 0) (pa_cons (pe_bltn (by rfl) B.tuple (by decide +kernel) (v := .ty "tuple") rfl) pa_nil))))) (pw_or1 (pt_cmpR op_lt (pe_len B (pv 0)) pe_int (nomark _))))) pss_never pss_nil)
          (pss_cons (ps_set (i := 2) nd rfl (.inr rfl) (pe_ix ix_tup (pv 0) pe_int (fun _ _ => rfl)))
          (pss_cons (ps_if (PW.pt (pw_or (pt_not (pt_val (pe_cl DL GL hr (pa_cons (pv 2) pa_nil)))) (pw_or (pt_cmpR op_ge (pv 2) (pv 1) (nomark _)) (pw_or1 (pt_not (pt_val (pe_callB (cr_all rfl) (by rfl) B.all (by decide +kernel) (pa_cons
            (pe_lc (own := [("part", 4)]) (g := gName 4) (tt := tYes) rfl nd (pi_tup (pe_slice sl_tupW (pv 0) (po_some pe_int) po_none)) (blkOk_by (N := N_is_part) (sc := defScope s_is_part) (by decide +kernel))
              (fun _ _ _ _ _ => pg_name (i := 4) nd rfl (.inl rfl)) (fun _ _ _ _ _ => pts_nil) (fun _ _ _ _ _ => pe_cl D GP hr (pa_cons (pv 4) (pa_cons (pv 2) pa_nil)))) pa_nil)))))))) pss_never pss_nil)
          (pss_cons (ps_setLc (i := 3) (own := [("part", 4)]) (g := gName 4) (tt := tYes) rfl nd rfl rfl (sw_true rfl rfl rfl (by decide +kernel)) (pi_tup (pe_slice sl_tupW (pv 0) (po_some pe_int) po_none)) (blkOk_by (N := N_is_part) (sc := defScope s_is_part) (by decide +kernel))
              (te := tCB (rMin K) (tCons (tCall (sp_titems K (m + 1)) [] E0 (tCons (tVar 4) tNil)) tNil))
              (fun _ _ _ _ _ => pg_name (i := 4) nd rfl (.inl rfl)) (fun _ _ _ _ _ => pts_nil) (fun _ _ _ _ _ => pe_callB (cr_min rfl) (by rfl) B.min (by decide +kernel) (pa_cons (pe_cl DI GI hr (pa_cons (pv 4) pa_nil)) pa_nil)))
          (pss_one (ps_ret (pe_cmpR (op_eqD hr.units) (pv 3) (pe_callB cr_sorted (by rfl) B.sorted (by decide +kernel) (pa_cons (pv 3) pa_nil)) (nomark _)))))))), ?_⟩
        have two := two_parts ok
        have near := fun {Q' : List Nat} (hQ : Q' ∈ Ss) => ok.can.near hU hS hQ
        have la : l < above := by
          obtain ⟨x, hx, y, hy, e⟩ := ok.can.top.1
          rw [← e]
          exact hab x hx y hy
        refine ⟨.ref p, rfl, .ref p, rfl, .inr ⟨p, _, rfl, hp, false, rfl, ?_⟩⟩
        show _
        refine ⟨.ref p, rfl, .ref p, .ty "tuple", .type "tuple", _, true, rfl, .ty _, ty_tup hp, kit_ty (show kitB "tuple" "tuple" = some true by decide +kernel), true, rfl, ?_⟩
        show _
        refine ⟨.ref p, rfl, p, _, rfl, .inr hp, _, _, rfl, rfl, false, ?_, ?_⟩
        · refine congrArg V.bl (decide_eq_false ?_)
          rw [List.length_cons]
          omega
        show _
        refine ⟨.ref p, rfl, p, _, _, _, rfl, rfl, hp, atI_nat (j := 0) rfl, ?_⟩
        refine ⟨.int l, rfl, l, rfl, ok.lv, true, rfl, ?_⟩
        show _
        refine ⟨.int l, rfl, .int above, rfl, _, _, rfl, rfl, false, congrArg V.bl (decide_eq_false (by omega)), ?_⟩
        show _
        refine ⟨.ref p, rfl, _, rfl, p, _, rfl, hp, fun sl H1 s1 hsl => ?_⟩
        rw [cut1] at hsl
        have kid : ∀ (k : Nat) y, vs[k]? = some y → ∃ P', Ss[k]? = some P' ∧ P' ∈ Ss ∧ P'.length < S.length ∧ TrV K H t m P' y := fun k y hy => by
          have hkl := (List.getElem?_eq_some_iff.mp hy).1
          have hP' : Ss[k]? = some Ss[k] := List.getElem?_eq_getElem (by omega)
          exact ⟨_, hP', List.getElem_mem _, (ok.lt _ (List.getElem_mem _)).2, hk k y _ hy hP'⟩
        have vs12 : vs.length ≤ 12 := by
          have := two_lenT ok
          omega
        refine ⟨sl, rfl, ⟨_, hsl⟩, fun E1 hE1 => lc_tup (xs := vs) (fun k Hy => Hy E1 = some (.lst ((List.replicate k true).map V.bl)) ∧ Sm H1 Hy) ⟨upd_same, Sm.new hE1⟩ (fun k Hy _ hP => hP.2.sqT hsl) (fun k y Hy hy hP => ?_) (fun Hy hP => ?_)⟩
        · obtain ⟨g1, g2⟩ := hP
          have hkl := (List.getElem?_eq_some_iff.mp hy).1
          obtain ⟨P', hP', hPm, hPl, hTk⟩ := kid k y hy
          obtain ⟨n1, n2, n3⟩ := near hPm
          refine ⟨rfl, y, rfl, .int l, rfl, y, l, t, P', rfl, hTk.same (s1.trans g2), hU, ht12, fun x hx => hS x (n2 x hx), by omega, n3, fun H2 s2 => ⟨_, s2 _ _ g1, ?_, ?_, ?_⟩⟩
          · rw [List.length_map, List.length_replicate]
            exact small1000 (by omega)
          · rw [upd_same, List.replicate_succ', List.map_append]
            rfl
          · intro b u e
            rw [upd_ne (ne_of_none e hE1)]
            exact s2 _ _ (g2 b u e)
        obtain ⟨g1, g2⟩ := hP
        refine ⟨E1, _, rfl, SqL.of g1, true, congrArg V.bl (all_true _), ?_⟩
        show _
        have s2 := s1.trans g2
        refine ⟨.ref p, rfl, _, rfl, p, _, rfl, s2.sqT hp, fun sl2 H3 s3 hsl2 => ?_⟩
        rw [cut1] at hsl2
        have s23 := s2.trans s3
        obtain ⟨hs, ehs⟩ : ∃ hs : List Int, hs = Ss.map fun Q' => ((Q'.headD 0 : Nat) : Int) := ⟨_, rfl⟩
        have hsl' : hs.length = vs.length := by rw [ehs, List.length_map, hl]
        refine ⟨sl2, rfl, ⟨_, hsl2⟩, fun E2 hE2 => lc_tup (xs := vs) (fun k Hy => Hy E2 = some (.lst ((hs.take k).map V.int)) ∧ Sm H3 Hy) ⟨upd_same, Sm.new hE2⟩ (fun k Hy _ hP => hP.2.sqT hsl2) (fun k y Hy hy hP => ?_) (fun Hy hP => ?_)⟩
        · obtain ⟨j1, j2⟩ := hP
          have hkl := (List.getElem?_eq_some_iff.mp hy).1
          obtain ⟨P', hP', hPm, hPl, hTk⟩ := kid k y hy
          obtain ⟨n1, n2, n3⟩ := near hPm
          have hhs : hs[k]? = some ((P'.headD 0 : Nat) : Int) := by rw [ehs, List.getElem?_map, hP']; rfl
          refine ⟨rfl, y, rfl, y, t, P', rfl, (hTk.same (s23.trans j2)).mono (by omega), by omega, fun H4 rp ms s4 nrp hrp hms => ⟨rp, ms, rfl, SqL.of hrp, by rw [hms.1]; exact (ok.lt P' hPm).1, fun mn hmn hle => ?_⟩⟩
          have hmin : mn = ((P'.headD 0 : Nat) : Int) := by
            cases P' with
            | nil => exact absurd (ok.lt [] hPm).1 (by decide)
            | cons a r =>
              have h1 := hle (a : Int) ((hms.2 a).mpr List.mem_cons_self)
              have h2 : (a : Int) ≤ mn := by
                by_cases hin : mn ∈ iL (a :: r)
                · obtain ⟨b, hb, rfl⟩ := List.mem_map.mp hin
                  have : a ≤ b := by
                    rcases List.mem_cons.mp hb with rfl | hb
                    · exact Nat.le_refl _
                    · exact Nat.le_of_lt ((List.pairwise_cons.mp n1).1 b hb)
                  omega
                · have nd2 : (iL (a :: r)).Nodup := List.pairwise_map.mpr (n1.imp fun {x y} z e => by omega)
                  have := List.Nodup.length_le_of_subset (l₁ := mn :: iL (a :: r)) (l₂ := ms) (List.nodup_cons.mpr ⟨hin, nd2⟩) (fun z hz => by
                    rcases List.mem_cons.mp hz with rfl | hz
                    · exact hmn
                    · obtain ⟨b, hb, rfl⟩ := List.mem_map.mp hz
                      exact (hms.2 b).mpr hb)
                  rw [List.length_cons, List.length_map, hms.1] at this
                  omega
              show mn = (a : Int)
              omega
          subst hmin
          refine ⟨_, s4 _ _ j1, ?_, ?_, ?_⟩
          · rw [List.length_map, List.length_take]
            exact small1000 (by omega)
          · rw [upd_same, List.take_add_one, hhs, List.map_append]
            rfl
          · intro b u e
            rw [upd_ne (ne_of_none e hE2)]
            exact s4 _ _ (j2 b u e)
        obtain ⟨j1, j2⟩ := hP
        rw [← hsl', List.take_length] at j1
        have hasc : hs.Pairwise (· < ·) := by
          rw [ehs]
          exact List.pairwise_map.mpr (ok.can.ord.imp fun {a b} z => by omega)
        refine ⟨.ref E2, rfl, .ref E2, rfl, E2, hs, rfl, SqL.of j1, by omega, fun ms' p5 perm srt hp5 => ?_⟩
        obtain rfl : ms' = hs := perm.eq_of_pairwise (le := (· ≤ ·)) (fun a b _ _ x y => by omega) srt (hasc.imp fun {a b} z => by omega)
        refine ⟨_, _, .lst (SqL.of (Sm.new hp5 _ _ j1)) (dp_ints _), .lst (SqL.of upd_same) (dp_ints _), shaped_list _, shaped_list _, ?_⟩
        rw [eqv_list, decide_eq_true rfl]
        exact q _ (s23.trans (j2.trans (Sm.new hp5)))
  termination_by n => n
end
section
variable {P : Program} {w : World} {K : PySem.W.Frag} {mg : Str → Option Value} {base : Heap}
def sp_istree (K : PySem.W.Frag) (n : Nat) : Sp := fun vs H Q _ => ∃ (v : V) (t : List (List Int)), vs = [v] ∧ TrV K H t n (List.range t.length) v ∧ WT t ∧ Ultra t ∧ t.length ≤ 12 ∧ ∀ H', Sm H H' → Q (.bl true) H'
theorem hasI_range {m : Nat} {ns : List Int} (h : HasI (List.range m) ns) {ms : List Int} (perm : ms.Perm ns) (srt : ms.Pairwise (· ≤ ·)) : ms = iL (List.range m) := by
  have asc : (iL (List.range m)).Pairwise (· < ·) := List.pairwise_map.mpr (List.pairwise_lt_range.imp fun {a b} z => by omega)
  have nd2 : (iL (List.range m)).Nodup := asc.imp fun {a b} z e => by omega
  have sub : ∀ z ∈ iL (List.range m), z ∈ ns := fun z hz => by
    obtain ⟨b, hb, rfl⟩ := List.mem_map.mp hz
    exact (h.2 b).mpr hb
  have lens := h.1
  have back : ∀ z ∈ ns, z ∈ iL (List.range m) := fun z hz => by
    by_cases hin : z ∈ iL (List.range m)
    · exact hin
    · have := List.Nodup.length_le_of_subset (l₁ := z :: iL (List.range m)) (l₂ := ns) (List.nodup_cons.mpr ⟨hin, nd2⟩) (fun y hy => by
        rcases List.mem_cons.mp hy with rfl | hy
        · exact hz
        · exact sub y hy)
      rw [List.length_cons, List.length_map, lens] at this
      omega
  have ndn : ms.Nodup := by
    by_cases q : ms.Nodup
    · exact q
    · exfalso
      have := (sub_len ms (iL (List.range m)) nd2 fun k hk => perm.mem_iff.mpr (sub k hk)).2 q
      rw [List.length_map, perm.length_eq, lens] at this
      omega
  have pm : ms.Perm (iL (List.range m)) := (List.perm_ext_iff_of_nodup ndn nd2).mpr fun z => ⟨fun hz => back z (perm.mem_iff.mp hz), fun hz => perm.mem_iff.mpr (sub z hz)⟩
  exact pm.eq_of_pairwise (le := (· ≤ ·)) (fun a b _ _ x y => by omega) srt (asc.imp fun {a b} z => by omega)
theorem ok_istree {f fP fW fL fI : Addr} {fd fdP fdW fdL fdI : FuncData} (F : Fun K "is_tree" "is_tree" s_is_tree f fd) (DP : Df K mg "is_part" s_is_part fP fdP ["value", "above"]) (DW : Df K mg "is_whole" s_is_whole fW fdW ["value"]) (DL : Df K mg "is_level" s_is_level fL fdL ["value"]) (DI : Df K mg "items_of" s_items_of fI fdI ["tree"])
    (gL : ∃ t, mg "LEVEL" = some (.int 1000000000000 t)) (gI : ∃ t, mg "ITEMS" = some (.int 12 t)) (B : Bi mg) (n : Nat) : FnOk P w K mg base CX0 (n + 5) f fd ["value"] (sp_istree K n) := by
  have GP : FnOk P w K mg base CX0 (n + 4) fP fdP ["value", "above"] (sp_part K n) := ok_part DP DW DL DI gL gI B n
  have GI : FnOk P w K mg base CX0 (n + 4) fI fdI ["tree"] (sp_titems K n) := (ok_titems DI DW B n).mono (by omega)
  obtain ⟨tL, gL⟩ := gL
  refine F.ok sc_is_tree (fun vs H Q E h => ?_) (fun cdv A outer s H vs Q E hr h => ?_)
  · obtain ⟨v, t, rfl, _⟩ := h
    rfl
  · obtain ⟨v, t, rfl, hT, hW, hU, h12, q⟩ := h
    have nd := sc_is_tree.nd
    refine ⟨_, pss_cons (ps_if (pt_not (pt_val (pe_cl DP GP hr (pa_cons (pv 0) (pa_cons (pe_op op_add (pe_glob (v := .int 1000000000000) rfl gL ⟨_, rfl⟩) pe_int) pa_nil))))) pss_never pss_nil)
      (pss_cons (ps_set (i := 1) nd rfl (.inl rfl) (pe_cl DI GI hr (pa_cons (pv 0) pa_nil)))
      (pss_one (ps_ret (pe_cmpR (op_eqD hr.units) (pe_callB cr_sorted (by rfl) B.sorted (by decide +kernel) (pa_cons (pv 1) pa_nil)) (pe_listRg rfl (by rfl) B.list (prg_1 (by rfl) B.range (pe_len B (pv 1)))) (nomark _))))), ?_⟩
    have small : ∀ x ∈ List.range t.length, ∀ y ∈ List.range t.length, lev t x y < 1000000000000 + 1 := fun x hx y hy => by
      by_cases e : x = y
      · rw [e, lev_self]
        decide
      · have := (hW.lev (List.mem_range.mp hx) (List.mem_range.mp hy) e).2
        omega
    refine ⟨v, rfl, _, _, rfl, rfl, v, _, t, List.range t.length, rfl, hT, hU, h12, fun x hx => List.mem_range.mp hx, by rw [List.length_range]; exact h12, small, fun H1 s1 => ⟨true, rfl, ?_⟩⟩
    show _
    refine ⟨v, rfl, v, t, List.range t.length, rfl, hT.same s1, by rw [List.length_range]; omega, fun H2 p ns s2 np hp hns => ?_⟩
    have hnl := hns.1
    rw [List.length_range] at hnl
    refine ⟨.ref p, rfl, p, ns, rfl, SqL.of hp, by omega, fun ms p3 perm srt hp3 => ?_⟩
    obtain rfl := hasI_range hns perm srt
    have hln : (ns.map V.int).length = ns.length := List.length_map ..
    have s3 := Sm.new (o := .lst ((iL (List.range t.length)).map V.int)) hp3
    refine ⟨.ref p, rfl, p, _, rfl, .inl (SqL.of (s3 _ _ hp)), _, rfl, RgOk.of_le (by decide) (by omega) (by decide) (by omega), fun p4 hp4 => ?_⟩
    have er : rgV 0 ((ns.map V.int).length : Int) = (iL (List.range t.length)).map V.int := by
      rw [List.length_map, hnl]
      unfold rgV iL
      rw [show ((t.length : Int) - 0).toNat = t.length by omega, List.map_map]
      refine List.map_congr_left fun i _ => ?_
      rw [Int.zero_add]
      rfl
    rw [er]
    refine ⟨_, _, .lst (SqL.of (Sm.new hp4 _ _ upd_same)) (dp_ints _), .lst (SqL.of upd_same) (dp_ints _), shaped_list _, shaped_list _, ?_⟩
    rw [eqv_list, decide_eq_true rfl]
    exact q _ (s1.trans (s2.trans (s3.trans (Sm.new hp4))))
end
section
variable {P : Program} {w : World} {K : PySem.W.Frag} {mg : Str → Option Value} {base : Heap}
/-! ### two equal values are equal -/
def sp_equal (K : PySem.W.Frag) : Nat → Sp
  | 0 => fun _ _ _ _ => False
  | n + 1 => fun vs H Q _ => ∃ (x y : V) (d : PyData), vs = [x, y] ∧ Dp K H x d ∧ Dp K H y d ∧ okD n d ∧ ∀ H', Sm H H' → Q (.bl true) H'
theorem isi_no {a b : String} {r : Bool} (h : kitB a b = some r) : PySem.W.kitOne K (.type a) (.type b) = some r := kit_ty h
theorem ok_equal {f : Addr} {fd : FuncData} (D : Df K mg "_law_equal" s_L_equal f fd ["_law_one_here", "_law_other"]) (B : Bi mg) : ∀ n, FnOk P w K mg base CX0 (n + 1) f fd ["_law_one_here", "_law_other"] (sp_equal K n)
  | 0 => ⟨fun _ _ _ _ h => h.elim, fun _ _ _ _ _ _ _ _ _ _ _ _ _ h => h.elim⟩
  | n + 1 => by
    have G := ok_equal D B n
    refine D.F.ok sc_L_equal (fun vs H Q E h => ?_) (fun cdv A outer s H vs Q E hr h => ?_)
    · obtain ⟨x, y, d, rfl, _⟩ := h
      rfl
    · obtain ⟨x, y, d, rfl, hx, hy, ok, q⟩ := h
      have nd := sc_L_equal.nd
      refine ⟨_, pss_cons (ps_if (PW.pt (pw_and (pt_val (pe_callB call_isi (by rfl) B.isinstance (by decide +kernel) (pa_cons (pv 0) (pa_cons (pe_bltn (by rfl) B.tuple (by decide +kernel) (v := .ty "tuple") rfl) pa_nil))))
            (pw_and1 (pt_val (pe_callB call_isi (by rfl) B.isinstance (by decide +kernel) (pa_cons (pv 1) (pa_cons (pe_bltn (by rfl) B.tuple (by decide +kernel) (v := .ty "tuple") rfl) pa_nil)))))))
          (pss_one (ps_ret (pe_and (pe_cmpR op_eq (pe_len B (pv 0)) (pe_len B (pv 1)) (nomark _)) (pe_one (pe_callB (cr_all rfl) (by rfl) B.all (by decide +kernel) (pa_cons
            (pe_lc (own := [("_law_a", 2), ("_law_b", 3)]) (g := gTup K 2 (gCons (gName 2) (gCons (gName 3) gNil))) (tt := tYes) rfl nd (RZ.pi_zipA (by rfl) B.zip (pa_cons (pv 0) (pa_cons (pv 1) pa_nil))) (blkOk_by (N := N_L_equal) (sc := defScope s_L_equal) (by decide +kernel))
              (fun _ _ _ _ _ => pg_tup rfl (pgs_cons (pg_name (i := 2) nd rfl (.inl rfl)) (pgs_cons (pg_name (i := 3) nd rfl (.inl rfl)) pgs_nil))) (fun _ _ _ _ _ => pts_nil)
              (fun _ _ _ _ _ => pe_cl D G hr (pa_cons (pv 2) (pa_cons (pv 3) pa_nil)))) pa_nil)))))) pss_nil)
        (pss_cons (ps_if (PW.pt (pw_or (pt_val (pe_callB call_isi (by rfl) B.isinstance (by decide +kernel) (pa_cons (pv 0) (pa_cons (pe_bltn (by rfl) B.bool (by decide +kernel) (v := .ty "bool") rfl) pa_nil))))
            (pw_or1 (pt_val (pe_callB call_isi (by rfl) B.isinstance (by decide +kernel) (pa_cons (pv 1) (pa_cons (pe_bltn (by rfl) B.bool (by decide +kernel) (v := .ty "bool") rfl) pa_nil)))))))
          (pss_one (ps_ret (pe_and (pe_callB call_isi (by rfl) B.isinstance (by decide +kernel) (pa_cons (pv 0) (pa_cons (pe_bltn (by rfl) B.bool (by decide +kernel) (v := .ty "bool") rfl) pa_nil)))
            (pe_and (pe_callB call_isi (by rfl) B.isinstance (by decide +kernel) (pa_cons (pv 1) (pa_cons (pe_bltn (by rfl) B.bool (by decide +kernel) (v := .ty "bool") rfl) pa_nil))) (pe_one (pe_cmpR op_eq (pv 0) (pv 1) (nomark _))))))) pss_nil)
        (pss_cons (ps_if (pt_cmpR op_ne (pe_callB call_isi (by rfl) B.isinstance (by decide +kernel) (pa_cons (pv 0) (pa_cons (pe_bltn (by rfl) B.tuple (by decide +kernel) (v := .ty "tuple") rfl) pa_nil))) (pe_callB call_isi (by rfl) B.isinstance (by decide +kernel) (pa_cons (pv 1) (pa_cons (pe_bltn (by rfl) B.tuple (by decide +kernel) (v := .ty "tuple") rfl) pa_nil))) (nomark _))
          (pss_one (ps_ret pe_bl)) pss_nil)
        (pss_cons (ps_if (pt_cmpR op_ne (pe_callB call_isi (by rfl) B.isinstance (by decide +kernel) (pa_cons (pv 0) (pa_cons (pe_bltn (by rfl) B.int (by decide +kernel) (v := .ty "int") rfl) pa_nil))) (pe_callB call_isi (by rfl) B.isinstance (by decide +kernel) (pa_cons (pv 1) (pa_cons (pe_bltn (by rfl) B.int (by decide +kernel) (v := .ty "int") rfl) pa_nil))) (nomark _))
          (pss_one (ps_ret pe_bl)) pss_nil)
        (pss_one (ps_ret (pe_and (pe_cmpR op_eq (pe_callB call_isi (by rfl) B.isinstance (by decide +kernel) (pa_cons (pv 0) (pa_cons (pe_bltn (by rfl) B.str (by decide +kernel) (v := .ty "str") rfl) pa_nil))) (pe_callB call_isi (by rfl) B.isinstance (by decide +kernel) (pa_cons (pv 1) (pa_cons (pe_bltn (by rfl) B.str (by decide +kernel) (v := .ty "str") rfl) pa_nil))) (nomark _))
          (pe_one (pe_cmpR op_eq (pv 0) (pv 1) (nomark _))))))))), ?_⟩
      have tx := dp_ty hx ok
      have ty := dp_ty hy ok
      have key : (∃ bi bs : Bool, kitB (tyN d) "tuple" = some false ∧ kitB (tyN d) "bool" = some false ∧ kitB (tyN d) "int" = some bi ∧ kitB (tyN d) "str" = some bs ∧ scal x y = true ∧ x = y) ∨ (∃ b, d = .bool b) ∨ ∃ ds, d = .tuple ds := by
        cases hx with
        | non =>
          cases hy
          exact .inl ⟨false, false, by decide +kernel, by decide +kernel, by decide +kernel, by decide +kernel, rfl, rfl⟩
        | int i =>
          cases hy
          exact .inl ⟨true, false, (by show kitB "int" "tuple" = some false; decide +kernel), (by show kitB "int" "bool" = some false; decide +kernel), (by show kitB "int" "int" = some true; decide +kernel), (by show kitB "int" "str" = some false; decide +kernel), rfl, rfl⟩
        | str z =>
          cases hy
          exact .inl ⟨false, true, (by show kitB "str" "tuple" = some false; decide +kernel), (by show kitB "str" "bool" = some false; decide +kernel), (by show kitB "str" "int" = some false; decide +kernel), (by show kitB "str" "str" = some true; decide +kernel), rfl, rfl⟩
        | bl b => exact .inr (.inl ⟨b, rfl⟩)
        | lst hs ha => cases n <;> exact ok.elim
        | tup hs ha => exact .inr (.inr ⟨_, rfl⟩)
      rcases key with ⟨bi, bs, k1, k2, k3, k4, sc, e⟩ | ⟨b, rfl⟩ | ⟨ds, rfl⟩
      · refine ⟨x, rfl, x, .ty "tuple", _, _, false, rfl, .ty _, tx, isi_no k1, false, rfl, ?_⟩
        refine ⟨x, rfl, x, .ty "bool", _, _, false, rfl, .ty _, tx, isi_no k2, false, rfl, ⟨y, rfl, y, .ty "bool", _, _, false, rfl, .ty _, ty, isi_no k2, false, rfl, ?_⟩⟩
        refine ⟨x, rfl, x, .ty "tuple", _, _, false, rfl, .ty _, tx, isi_no k1, y, rfl, y, .ty "tuple", _, _, false, rfl, .ty _, ty, isi_no k1, rfl, _, rfl, ?_⟩
        refine ⟨x, rfl, x, .ty "int", _, _, bi, rfl, .ty _, tx, isi_no k3, y, rfl, y, .ty "int", _, _, bi, rfl, .ty _, ty, isi_no k3, rfl, _, rfl, iteNS rfl ?_⟩
        refine ⟨x, rfl, x, .ty "str", _, _, bs, rfl, .ty _, tx, isi_no k4, y, rfl, y, .ty "str", _, _, bs, rfl, .ty _, ty, isi_no k4, rfl, true, by rw [decide_eq_true rfl], ?_⟩
        exact ⟨x, rfl, y, rfl, sc, by rw [decide_eq_true e]; exact q _ (Sm.refl _)⟩
      · cases hx
        cases hy
        refine ⟨_, rfl, .bl b, .ty "tuple", _, _, false, rfl, .ty _, tx, isi_no (show kitB "bool" "tuple" = some false by decide +kernel), false, rfl, ⟨_, rfl, .bl b, .ty "bool", _, _, true, rfl, .ty _, tx, isi_no (show kitB "bool" "bool" = some true by decide +kernel), true, rfl, ?_⟩⟩
        exact ⟨_, rfl, .bl b, .ty "bool", _, _, true, rfl, .ty _, tx, isi_no (show kitB "bool" "bool" = some true by decide +kernel), true, rfl, ⟨_, rfl, .bl b, .ty "bool", _, _, true, rfl, .ty _, ty, isi_no (show kitB "bool" "bool" = some true by decide +kernel), true, rfl, ⟨_, rfl, _, rfl, rfl, by rw [decide_eq_true rfl]; exact q _ (Sm.refl _)⟩⟩⟩
      · cases hx with
        | @tup ax xs _ hs ha =>
         cases hy with
         | @tup ay ys _ hs2 ha2 =>
          cases n with
          | zero => exact ok.elim
          | succ n =>
            obtain ⟨okl, okd⟩ := ok
            have lx := dp_len ha
            have ly := dp_len ha2
            refine ⟨_, rfl, .ref ax, .ty "tuple", _, _, true, rfl, .ty _, tx, isi_no (show kitB "tuple" "tuple" = some true by decide +kernel), true, rfl, ⟨_, rfl, .ref ay, .ty "tuple", _, _, true, rfl, .ty _, ty, isi_no (show kitB "tuple" "tuple" = some true by decide +kernel), true, rfl, ?_⟩⟩
            refine ⟨_, rfl, ax, xs, rfl, .inr hs, _, rfl, ay, ys, rfl, .inr hs2, rfl, true, by rw [decide_eq_true (by rw [lx, ly])], ?_⟩
            refine ⟨_, rfl, _, rfl, ax, ay, xs, ys, rfl, .inr ⟨hs, hs2, fun R hR => ?_⟩⟩
            refine ⟨fun i m Hx => m = xs.length - i ∧ i ≤ xs.length ∧ ∃ bs : List Bool, Hx R = some (.lst (bs.map V.bl)) ∧ bs.length = i ∧ bs.all id = true ∧ Sm H Hx, ⟨xs.length, by omega, by omega, [], upd_same, rfl, rfl, Sm.new hR⟩, ?_⟩
            rintro i m Hx ⟨rfl, hi, bs, h1, h2, h3, h4⟩
            by_cases hlt : i < xs.length
            · have hly : i < ys.length := by omega
              refine .inr ⟨⟨xs, ys, _, _, h4.sqT hs, h4.sqT hs2, List.getElem?_eq_getElem hlt, List.getElem?_eq_getElem hly⟩, fun Hy => ∃ bs : List Bool, Hy R = some (.lst (bs.map V.bl)) ∧ bs.length = i + 1 ∧ bs.all id = true ∧ Sm H Hy, fun Hy hy => ⟨xs.length - (i + 1), by omega, rfl, by omega, hy⟩, fun v Hy hy => ?_⟩
              obtain ⟨T, x1, y1, rfl, hT, rfl, f1, f2⟩ := hy
              have g1 := f1 xs (h4.sqT hs)
              have g2 := f2 ys (h4.sqT hs2)
              obtain ⟨dx, e1, px⟩ := dp_at ha g1
              obtain ⟨dy, e2, py⟩ := dp_at ha2 g2
              obtain rfl : dx = dy := Option.some.inj (e1.symm.trans e2)
              have sT : Sm Hx (upd Hx T (.tup [x1, y1])) := Sm.new hT
              have s5 := h4.trans sT
              refine ⟨T, _, rfl, SqT.of upd_same, rfl, _, _, rfl, _, _, rfl, rfl, rfl, ?_⟩
              refine ⟨x1, rfl, y1, rfl, x1, y1, dx, rfl, Dp.same s5 _ _ px, Dp.same s5 _ _ py, okd _ (List.mem_of_getElem? e1), fun H6 s6 => ?_⟩
              have h6 := s6 _ _ (sT _ _ h1)
              refine ⟨_, h6, by rw [List.length_map]; exact small1000 (by omega), bs ++ [true], by rw [upd_same, List.map_append]; rfl, by rw [List.length_append, h2]; rfl, by rw [List.all_append, h3]; rfl, ?_⟩
              intro b o e
              rw [upd_ne (ne_of_none e hR)]
              exact s6 _ _ (s5 b o e)
            · refine .inl ⟨⟨xs, ys, h4.sqT hs, h4.sqT hs2, .inl (by omega)⟩, R, bs, rfl, SqL.of h1, ?_⟩
              rw [h3]
              exact q _ h4
end
section
variable {P : Program} {w : World} {K : PySem.W.Frag} {mg : Str → Option Value} {base : Heap}
theorem kids_all {Φ : List Nat → V → PyData → Prop} : ∀ {vs : List V} {Ss : List (List Nat)}, vs.length = Ss.length → (∀ (k : Nat) v P, vs[k]? = some v → Ss[k]? = some P → ∃ d, Φ P v d) → ∃ ds : List PyData, vs.length = ds.length ∧ ∀ (k : Nat) v P d, vs[k]? = some v → Ss[k]? = some P → ds[k]? = some d → Φ P v d
  | [], [], _, _ => ⟨[], rfl, fun k v P d x => by simp at x⟩
  | [], _ :: _, e, _ => by simp at e
  | _ :: _, [], e, _ => by simp at e
  | v :: vs, P :: Ss, e, h => by
    obtain ⟨d, hd⟩ := h 0 v P rfl rfl
    obtain ⟨ds, a1, a2⟩ := kids_all (vs := vs) (Ss := Ss) (by simpa using e) fun k u Q x y => h (k + 1) u Q x y
    refine ⟨d :: ds, by rw [List.length_cons, List.length_cons, a1], fun k u Q d' x y z => ?_⟩
    cases k with
    | zero =>
      obtain rfl := Option.some.inj (show some v = some u from x)
      obtain rfl := Option.some.inj (show some P = some Q from y)
      obtain rfl := Option.some.inj (show some d = some d' from z)
      exact hd
    | succ k => exact a2 k u Q d' x y z
theorem dp_pt {H : Hp} : ∀ {vs : List V} {ds : List PyData}, vs.length = ds.length → (∀ (k : Nat) v d, vs[k]? = some v → ds[k]? = some d → Dp K H v d) → DpAll K H vs ds
  | [], [], _, _ => .nil
  | [], _ :: _, e, _ => by simp at e
  | _ :: _, [], e, _ => by simp at e
  | v :: vs, d :: ds, e, h => .cons (h 0 v d rfl rfl) (dp_pt (by simpa using e) fun k u x a b => h (k + 1) u x a b)
/-- a tree, its data alone -/
inductive TrD80 (t : List (List Int)) : List Nat → PyData → Prop
  | leaf (i : Nat) : TrD80 t [i] (.int (i : Int))
  | node {S : List Nat} {l : Int} {ds : List PyData} {Ss : List (List Nat)} : ds.length = Ss.length → (∀ (k : Nat) d P, ds[k]? = some d → Ss[k]? = some P → TrD80 t P d) → NodeOk t S l Ss → TrD80 t S (.tuple (.int l :: ds))
/-- a tree's data tell its items and its levels -/
theorem TrD80.det {t u : List (List Int)} {S : List Nat} {d : PyData} (h : TrD80 t S d) : ∀ {S' : List Nat}, TrD80 u S' d → (∀ x, x ∈ S ↔ x ∈ S') ∧ ∀ x y, x ∈ S → y ∈ S → x ≠ y → lev t x y = lev u x y := by
  generalize he : d = e
  induction h generalizing e with
  | leaf i =>
    intro S' hw
    subst he
    cases hw with
    | leaf j => exact ⟨fun x => Iff.rfl, fun x y hx hy ne => absurd ((List.mem_singleton.mp hx).trans (List.mem_singleton.mp hy).symm) ne⟩
  | node hl hk ok ih =>
    rename_i S l ds Ss
    intro S' hw
    subst he
    cases hw with
    | node hl' hk' ok' =>
      rename_i Ss'
      have kid : ∀ (k : Nat) P P', Ss[k]? = some P → Ss'[k]? = some P' → (∀ x, x ∈ P ↔ x ∈ P') ∧ ∀ x y, x ∈ P → y ∈ P → x ≠ y → lev t x y = lev u x y := fun k P P' hP hP' => by
        obtain ⟨d, hd⟩ : ∃ d, ds[k]? = some d := ⟨_, List.getElem?_eq_getElem (by have := (List.getElem?_eq_some_iff.mp hP).1; omega)⟩
        exact ih k d P hd hP d rfl (hk' k d P' hd hP')
      have to' : ∀ P ∈ Ss, ∃ P' ∈ Ss', (∀ x, x ∈ P ↔ x ∈ P') ∧ ∀ x y, x ∈ P → y ∈ P → x ≠ y → lev t x y = lev u x y := fun P hP => by
        obtain ⟨k, hk⟩ := List.getElem?_of_mem hP
        obtain ⟨P', hP'⟩ : ∃ P', Ss'[k]? = some P' := ⟨_, List.getElem?_eq_getElem (by have := (List.getElem?_eq_some_iff.mp hk).1; omega)⟩
        exact ⟨P', List.mem_of_getElem? hP', kid k P P' hk hP'⟩
      have from' : ∀ P' ∈ Ss', ∃ P ∈ Ss, ∀ x, x ∈ P ↔ x ∈ P' := fun P' hP' => by
        obtain ⟨k, hk⟩ := List.getElem?_of_mem hP'
        obtain ⟨P, hP⟩ : ∃ P, Ss[k]? = some P := ⟨_, List.getElem?_eq_getElem (by have := (List.getElem?_eq_some_iff.mp hk).1; omega)⟩
        exact ⟨P, List.mem_of_getElem? hP, (kid k P P' hP hk).1⟩
      have iff : ∀ x, x ∈ S ↔ x ∈ S' := fun x => by
        rw [ok.mem, ok'.mem]
        constructor
        · rintro ⟨P, hP, hx⟩
          obtain ⟨P', hP', e, _⟩ := to' P hP
          exact ⟨P', hP', (e x).mp hx⟩
        · rintro ⟨P', hP', hx⟩
          obtain ⟨P, hP, e⟩ := from' P' hP'
          exact ⟨P, hP, (e x).mpr hx⟩
      refine ⟨iff, fun x y hx hy ne => ?_⟩
      by_cases h2 : ∃ P ∈ Ss, x ∈ P ∧ y ∈ P
      · obtain ⟨P, hP, h3, h4⟩ := h2
        obtain ⟨P', hP', _, e⟩ := to' P hP
        exact e x y h3 h4 ne
      · rw [ok.diff x y hx hy ne fun P hP h3 h4 => h2 ⟨P, hP, h3, h4⟩, ok'.diff x y ((iff x).mp hx) ((iff y).mp hy) ne fun P' hP' h3 h4 => by
          obtain ⟨P, hP, e⟩ := from' P' hP'
          exact h2 ⟨P, hP, (e x).mpr h3, (e y).mpr h4⟩]
/-- a tree and its data: told by any other one of the same table -/
structure TB80 (K : PySem.W.Frag) (H : Hp) (t : List (List Int)) (n : Nat) (S : List Nat) (v : V) (d : PyData) : Prop where
  trx : TrX K H n S.length v d
  dp : Dp K H v d
  ok : okD n d
  td : TrD80 t S d
  back : ∀ {H' : Hp} {u : V}, Da K noL H' u d → TrV K H' t n S u ∧ Dp K H' u d
  same : ∀ {H' : Hp} {u : V} {m : Nat}, TrV K H' t m S u → TrX K H' m S.length u d
theorem TrV.both80 {H : Hp} {t : List (List Int)} (hU : Ultra t) {n : Nat} {S : List Nat} {v : V} (h : TrV K H t n S v) : (∀ x ∈ S, x < t.length) → S.length ≤ 20 → ∃ d, TB80 K H t n S v d := by
  induction h with
  | leaf n i hi =>
    intro hS _
    refine ⟨.int (i : Int), .leaf n i hi, .int _, okD_int n _, .leaf i, fun h => ?_, fun h => ?_⟩
    · cases h
      exact ⟨.leaf n i hi, .int _⟩
    · rw [h.len1]
      exact .leaf _ i hi
  | node h hl hk ok ih =>
    rename_i n S p l vs Ss
    intro hS h20
    have lt := fun P mP => (ok.lt P mP).2
    obtain ⟨ds, a1, a2⟩ := kids_all (Φ := fun P v d => TB80 K _ t n P v d) hl fun k u P x y => by
      have mP := List.mem_of_getElem? y
      have := lt P mP
      exact ih k u P x y (fun x hx => hS x ((ok.mem x).mpr ⟨P, mP, hx⟩)) (by omega)
    have two := two_parts ok
    have l0 : 0 < l := by
      have := ok.lv
      unfold LvOk at this
      omega
    have few : Ss.length ≤ 20 := by
      have : ∀ Ts : List (List Nat), (∀ P ∈ Ts, 0 < P.length) → Ts.length ≤ (Ts.map List.length).sum := fun Ts => by
        induction Ts with
        | nil => exact fun _ => Nat.le_refl _
        | cons P Ts ih =>
          intro h
          have a := h P List.mem_cons_self
          have b := ih fun x hx => h x (List.mem_cons_of_mem _ hx)
          rw [List.map_cons, List.sum_cons, List.length_cons]
          omega
      have a := this Ss fun P mP => (ok.lt P mP).1
      have b := ok.len
      omega
    have getS : ∀ {k : Nat}, k < vs.length → ∃ P, Ss[k]? = some P := fun hk => ⟨_, List.getElem?_eq_getElem (by omega)⟩
    have getV : ∀ {k : Nat}, k < ds.length → ∃ v, vs[k]? = some v := fun hk => ⟨_, List.getElem?_eq_getElem (by omega)⟩
    refine ⟨.tuple (.int l :: ds), .node (ms := Ss.map List.length) h ok.lv a1 (by rw [List.length_map, hl]) (by omega) ok.len fun k u d m' x y z => ?_, .tup h (.cons (.int l) (dp_pt a1 fun k u d x y => ?_)), ?_, .node (by omega) (fun k d P y hP => ?_) ok, fun hd => ?_, fun hw => ?_⟩
    · rw [List.getElem?_map] at z
      obtain ⟨P, hP, rfl⟩ := Option.map_eq_some_iff.mp z
      exact (a2 k u P d x hP y).trx
    · obtain ⟨P, hP⟩ := getS (List.getElem?_eq_some_iff.mp x).1
      exact (a2 k u P d x hP y).dp
    · refine ⟨by rw [List.length_cons]; omega, fun d hd => ?_⟩
      rcases List.mem_cons.mp hd with rfl | hd
      · exact okD_int n _
      · obtain ⟨k, hk⟩ := List.getElem?_of_mem hd
        obtain ⟨u, hu⟩ := getV (List.getElem?_eq_some_iff.mp hk).1
        obtain ⟨P, hP⟩ := getS (List.getElem?_eq_some_iff.mp hu).1
        exact (a2 k u P d hu hP hk).ok
    · obtain ⟨u, hu⟩ := getV (List.getElem?_eq_some_iff.mp y).1
      exact (a2 k u P d hu hP y).td
    · cases hd with
      | tup hq hall =>
        cases hall with
        | cons hi hrest =>
          cases hi
          rename_i q us
          have ul := hrest.len
          have kid : ∀ (k : Nat) u P, us[k]? = some u → Ss[k]? = some P → TrV K _ t n P u ∧ ∃ d, ds[k]? = some d ∧ Dp K _ u d := fun k u P x y => by
            obtain ⟨d, hd, da⟩ := hrest.at x
            obtain ⟨v, hv⟩ := getV (List.getElem?_eq_some_iff.mp hd).1
            exact ⟨((a2 k v P d hv y hd).back da).1, d, hd, ((a2 k v P d hv y hd).back da).2⟩
          refine ⟨.node hq (by omega) (fun k u P x y => (kid k u P x y).1) ok, .tup hq (.cons (.int l) (dp_pt ul fun k u d x y => ?_))⟩
          obtain ⟨P, hP⟩ := getS (k := k) (by have := (List.getElem?_eq_some_iff.mp x).1; omega)
          obtain ⟨d', hd', hdp⟩ := (kid k u P x hP).2
          rw [y] at hd'
          obtain rfl := Option.some.inj hd'
          exact hdp
    · cases hw with
      | leaf _ i hi =>
        have := ok.two
        simp at this
      | node h' hl' hk' ok' =>
        obtain ⟨rfl, rfl⟩ := can_one hU hS l0 ok.can ok'.can
        refine .node (ms := Ss.map List.length) h' ok.lv (by omega) (by rw [List.length_map]; omega) (by omega) ok.len fun k u d m' x y z => ?_
        rw [List.getElem?_map] at z
        obtain ⟨P, hP, rfl⟩ := Option.map_eq_some_iff.mp z
        obtain ⟨v, hv⟩ := getV (List.getElem?_eq_some_iff.mp y).1
        exact (a2 k v P d hv hP y).same (hk' k u P x hP)
end
section
variable {P : Program} {w : World} {K : PySem.W.Frag} {mg : Str → Option Value} {base : Heap}
theorem TrX.shape80 {H : Hp} {n m : Nat} {v : V} {d : PyData} (h : TrX K H n m v d) : d.canLay0 = true ∧ d.depth ≤ n := by
  induction h with
  | leaf n i hi => exact ⟨by simp [PyData.canLay0], by simp [PyData.depth]⟩
  | node h hl l1 l2 l3 hm hk ih =>
    rename_i n m p l vs ds ms
    have kid : ∀ d ∈ ds, d.canLay0 = true ∧ d.depth ≤ n := fun d hd => by
      obtain ⟨k, hk'⟩ := List.getElem?_of_mem hd
      have lk := (List.getElem?_eq_some_iff.mp hk').1
      exact ih k _ d _ (List.getElem?_eq_getElem (by omega)) hk' (List.getElem?_eq_getElem (by omega))
    have all : ∀ ds : List PyData, (∀ d ∈ ds, d.canLay0 = true ∧ d.depth ≤ n) → PyData.canLayAll0 ds = true ∧ PyData.depthAll ds ≤ n := fun ds => by
      induction ds with
      | nil => exact fun _ => ⟨by simp [PyData.canLayAll0], by simp [PyData.depthAll]⟩
      | cons d ds ih =>
        intro h
        obtain ⟨a, b⟩ := h d List.mem_cons_self
        obtain ⟨c, e⟩ := ih fun x hx => h x (List.mem_cons_of_mem _ hx)
        exact ⟨by simp [PyData.canLayAll0, a, c], by simp only [PyData.depthAll]; omega⟩
    obtain ⟨a, b⟩ := all ds kid
    refine ⟨by simp [PyData.canLay0, PyData.canLayAll0, a], ?_⟩
    have e : (PyData.tuple (.int l :: ds)).depth = max 0 (PyData.depthAll ds) + 1 := by simp [PyData.depth, PyData.depthAll]
    rw [e]
    omega
theorem TrX.dp80 {H : Hp} {n m : Nat} {v : V} {d : PyData} (h : TrX K H n m v d) : Dp K H v d := by
  induction h with
  | leaf n i hi => exact .int _
  | node h hl l1 l2 l3 hm hk ih =>
    rename_i n m p l vs ds ms
    exact .tup h (.cons (.int l) (dp_pt l1 fun k u d x y => ih k u d _ x y (List.getElem?_eq_getElem (by have := (List.getElem?_eq_some_iff.mp x).1; omega))))
structure TreeDefs (K : PySem.W.Frag) (mg : Str → Option Value) : Prop where
  G : GroupDefs K mg
  gL : ∃ t, mg "LEVEL" = some (.int 1000000000000 t)
  gI : ∃ t, mg "ITEMS" = some (.int 12 t)
  steps : ∃ f fd, Df K mg "steps_of" s_steps_of f fd ["grid"]
  joins : ∃ f fd, Df K mg "joins_of" s_joins_of f fd ["table"]
  treeof : ∃ f fd, Df K mg "tree_of" s_tree_of f fd ["table"]
  below : ∃ f fd, Df K mg "nested_below" s_nested_below f fd ["table"]
  read : ∃ f fd, Df K mg "_law_tree_read" s_L_tree_read f fd ["_law_words"]
  ftree : ∃ f fd, Df K mg "format_tree" s_format_tree f fd ["tree"]
  istree : ∃ f fd, Df K mg "is_tree" s_is_tree f fd ["value"]
  ispart : ∃ f fd, Df K mg "is_part" s_is_part f fd ["value", "above"]
  whole : ∃ f fd, Df K mg "is_whole" s_is_whole f fd ["value"]
  level : ∃ f fd, Df K mg "is_level" s_is_level f fd ["value"]
  items : ∃ f fd, Df K mg "items_of" s_items_of f fd ["tree"]
  levin : ∃ f fd, Df K mg "level_in" s_level_in f fd ["tree", "one", "other"]
  tof : ∃ f fd, Df K mg "table_of" s_table_of f fd ["tree"]
  equal : ∃ f fd, Df K mg "_law_equal" s_L_equal f fd ["_law_one_here", "_law_other"]
def sp_tright80 (K : PySem.W.Frag) : Sp := fun vs H Q _ => ∃ (tv : V) (t : List (List Int)), vs = [tv] ∧ TT K H tv t ∧ WT t ∧ 1 ≤ t.length ∧ t.length ≤ 12 ∧ ∀ H', Sm H H' → Q (.bl true) H'
set_option maxHeartbeats 8000000 in
theorem ok_tright80 {f : Addr} {fd : FuncData} (F : Fun K "_law_tree_right" "_law_tree_right" s_L_tree_right f fd) (T : TreeDefs K mg) : FnOk P w K mg base CX0 17 f fd ["_law_table_here"] (sp_tright80 K) := by
  have B := T.G.G.B
  obtain ⟨fS, fdS, DS⟩ := T.steps
  obtain ⟨fJ, fdJ, DJ⟩ := T.joins
  obtain ⟨f1, fd1, D_tree_of⟩ := T.treeof
  obtain ⟨f2, fd2, D_nested_below⟩ := T.below
  obtain ⟨f3, fd3, D_L_tree_read⟩ := T.read
  obtain ⟨f4, fd4, D_format_tree⟩ := T.ftree
  obtain ⟨f5, fd5, D_is_tree⟩ := T.istree
  obtain ⟨fP, fdP, DP⟩ := T.ispart
  obtain ⟨fW, fdW, DW⟩ := T.whole
  obtain ⟨fL, fdL, DL⟩ := T.level
  obtain ⟨fI, fdI, DI⟩ := T.items
  obtain ⟨fQ, fdQ, DQ⟩ := T.levin
  obtain ⟨f6, fd6, D_table_of⟩ := T.tof
  obtain ⟨f7, fd7, D_L_equal⟩ := T.equal
  have G_tree_of : FnOk P w K mg base CX0 16 f1 fd1 ["table"] (sp_treeof K) := (ok_treeof D_tree_of.F DJ DS T.G).mono (by decide)
  have G_nested_below : FnOk P w K mg base CX0 16 f2 fd2 ["table"] (sp_below K) := (ok_below D_nested_below.F T.G.G).mono (by decide)
  have G_L_tree_read : FnOk P w K mg base CX0 16 f3 fd3 ["_law_words"] (sp_tread80 K) := ok_tread80 (k := 15) D_L_tree_read.F B
  have G_format_tree : FnOk P w K mg base CX0 16 f4 fd4 ["tree"] (sp_tx78 K 11) := (ok_ftree78 D_format_tree B 11).mono (by decide)
  have G_is_tree : FnOk P w K mg base CX0 16 f5 fd5 ["value"] (sp_istree K 11) := ok_istree D_is_tree.F DP DW DL DI T.gL T.gI B 11
  have G_table_of : FnOk P w K mg base CX0 16 f6 fd6 ["tree"] (sp_tof K 11) := (ok_tof D_table_of.F DQ DI DW B 11).mono (by decide)
  have G_L_equal : FnOk P w K mg base CX0 16 f7 fd7 ["_law_one_here", "_law_other"] (sp_equal K 15) := ok_equal D_L_equal B 15
  refine F.ok sc_L_tree_right (fun vs H Q E h => ?_) (fun cdv A outer s H vs Q E hr h => ?_)
  · obtain ⟨tv, t, rfl, _⟩ := h
    rfl
  · obtain ⟨tv, t, rfl, hT, hW, h1, h12, q⟩ := h
    have nd := sc_L_tree_right.nd
    refine ⟨_, (pss_cons (ps_par (i := 1) (j := 2) rfl nd rfl rfl (by decide) rfl rfl (pa_cons (pe_cl D_tree_of G_tree_of hr (pa_cons (pv 0) pa_nil)) (pa_cons (pe_cl D_nested_below G_nested_below hr (pa_cons (pv 0) pa_nil)) pa_nil)) rfl)
      (pss_cons (ps_set (i := 3) nd rfl (.inl rfl) (pe_cl D_L_tree_read G_L_tree_read hr (pa_cons (pe_cl D_format_tree G_format_tree hr (pa_cons (pv 1) pa_nil)) pa_nil)))
      (pss_cons (ps_if (PW.pt (pw_or (pt_not (pt_val (pe_cl D_is_tree G_is_tree hr (pa_cons (pv 3) pa_nil)))) (pw_or (pt_cmpR (op_neD hr.units) (pv 3) (pv 1) (nomark _)) (pw_or1 (pt_not (pt_val (pe_cl D_L_equal G_L_equal hr (pa_cons (pe_cl D_table_of G_table_of hr (pa_cons (pv 3) pa_nil)) (pa_cons (pv 2) pa_nil)))))))))
      (pss_one (ps_ret pe_bl))
      pss_nil)
      (pss_one (ps_ret (pe_cmpR op_eq (pe_cl D_format_tree G_format_tree hr (pa_cons (pe_cl D_tree_of G_tree_of hr (pa_cons (pv 2) pa_nil)) pa_nil)) (pe_cl D_format_tree G_format_tree hr (pa_cons (pv 1) pa_nil)) (nomark _))))))), ?_⟩
    have jW := jtab_wt hW
    have jU := jtab_ultra hW
    have jl := jtab_len t
    have rl : (List.range t.length).length = t.length := List.length_range
    have inR : ∀ x ∈ List.range t.length, x < (jtab t).length := fun x hx => by rw [jl]; exact List.mem_range.mp hx
    refine ⟨tv, rfl, tv, t, rfl, hT, hW, h1, by omega, fun H1 v s1 hv => ?_⟩
    have hv := hv.mono (m := 11) (by omega)
    obtain ⟨d, tb⟩ := hv.both80 jU inR (by rw [rl]; omega)
    refine ⟨tv, rfl, tv, t, rfl, hT.same s1, hW, by omega, fun H2 uv s2 hu => ?_⟩
    refine ⟨_, _, rfl, ?_⟩
    refine nx_mk ?_
    refine ⟨v, rfl, v, _, d, rfl, tb.trx.same s2, by rw [rl]; omega, fun H3 sx s3 hs => ?_⟩
    have len3 : sx.length ≤ 100000 := by
      have := tb.trx.len
      rw [rl] at this
      rw [TL.len_tl, hs]
      omega
    refine ⟨sx, d, rfl, hs, tb.trx.tk, len3, fun H4 u s4 hda => ?_⟩
    refine nx_mk ?_
    obtain ⟨huT, huD⟩ := tb.back hda
    have s14 := s2.trans (s3.trans s4)
    refine ⟨u, rfl, u, jtab t, rfl, by rw [jl]; exact huT, jW, jU, by omega, fun H5 s5 => ?_⟩
    refine ⟨_, rfl, ?_⟩
    refine iteF ?_
    obtain ⟨shl, shd⟩ := tb.trx.shape80
    have sh : SeqAt.shaped d = true := by
      show (d.canLay0 && decide (d.depth ≤ 64)) = true
      rw [shl, decide_eq_true (by omega)]
      rfl
    have hv5 : Dp K H5 v d := (tb.trx.same (s14.trans s5)).dp80
    refine ⟨u, rfl, v, rfl, d, d, (tb.back (hda.same s5)).2, hv5, sh, sh, _, rfl, ?_⟩
    rw [SeqAt.eqv_refl d shl]
    refine iteF ?_
    refine ⟨u, rfl, u, jtab t, List.range t.length, rfl, huT.same s5, fun x => by rw [jl]; exact List.mem_range, by rw [rl, jl], jW, by omega, fun H6 tu s6 htu => ?_⟩
    have s46 := s5.trans s6
    have hu6 : TT K H6 uv (jtab t) := hu.same ((s3.trans s4).trans s46)
    refine ⟨uv, rfl, tu, uv, tabD (jtab t), rfl, htu.dp, hu6.dp, okD_tab jW (by omega), fun H7 s7 => ?_⟩
    refine ⟨_, rfl, ?_⟩
    refine iteF ?_
    show _
    refine nx_mk ?_
    refine ⟨uv, rfl, uv, jtab t, rfl, hu6.same s7, jW, by omega, by omega, fun H8 wv s8 hw => ?_⟩
    rw [jtab_jtab hW, jl] at hw
    refine ⟨wv, _, d, rfl, tb.same (hw.mono (m := 11) (by omega)), by rw [rl]; omega, fun H9 sa s9 hsa => ?_⟩
    refine ⟨v, rfl, v, _, d, rfl, tb.trx.same (s14.trans (s46.trans (s7.trans (s8.trans s9)))), by rw [rl]; omega, fun H10 sb s10 hsb => ?_⟩
    obtain rfl : sa = sb := TL.ext_tl (by rw [hsa, hsb])
    refine ⟨rfl, ?_⟩
    rw [decide_eq_true rfl]
    exact q _ (s1.trans (s14.trans (s46.trans (s7.trans (s8.trans (s9.trans s10))))))
end
section
variable {P : Program} {w : World} {K : PySem.W.Frag} {mg : Str → Option Value} {base : Heap}
/-! ### the program: pairs -/
def sp_pairs (K : PySem.W.Frag) : Sp := fun vs H Q _ => ∃ (tv : V) (t : List (List Int)), vs = [tv] ∧ TT K H tv t ∧ t.length ≤ 20 ∧ ∀ (H' : Hp) (p : Addr) (vs' : List V), Sm H H' → SqT K H' p vs' → Prs K H' vs' (ppre t.length t.length) → Q (.ref p) H'
theorem ok_pairs {f : Addr} {fd : FuncData} {k : Nat} (F : Fun K "pairs_of" "pairs_of" s_pairs_of f fd) (B : Bi mg) : FnOk P w K mg base CX0 (k + 1) f fd ["table"] (sp_pairs K) := by
  refine F.ok sc_pairs_of (fun vs H Q E h => ?_) (fun cdv A outer s H vs Q E hr h => ?_)
  · obtain ⟨tv, t, rfl, _⟩ := h
    rfl
  · obtain ⟨tv, t, rfl, ⟨tp, rs, rfl, htp, hR⟩, h20, q⟩ := h
    have nd := sc_pairs_of.nd
    refine ⟨_, pss_cons (ps_set (i := 1) nd rfl (.inr rfl) (pe_len B (pv 0)))
      (pss_one (ps_ret (pe_callTy call_tuple_of (by rfl) B.tuple (by decide +kernel) (pa_cons
        (pe_lc2 (own := [("one", 2), ("other", 3)]) (vs1 := [3]) (g := gName 2) (g1 := gName 3) (tt := tYes) (tt1 := tYes) rfl nd (pi_range1 rfl B.range (pa_cons (pv 1) pa_nil)) (blkOk_by (N := N_pairs_of) (sc := defScope s_pairs_of) (by decide +kernel)) (by decide)
          (fun _ _ _ _ _ => pg_name (i := 2) nd rfl (.inl rfl)) (fun _ _ _ _ _ => pts_nil)
          (fun _ _ _ _ _ => pi_range2 rfl B.range (pa_cons (pe_op op_add (pv 2) pe_int) (pa_cons (pv 1) pa_nil)))
          (fun _ _ _ _ _ => pg_name (i := 3) nd rfl (.inl rfl)) (fun _ _ _ _ _ => pts_nil)
          (fun _ _ _ _ _ => pe_tup (pa_cons (pv 2) (pa_cons (pv 3) pa_nil)))) pa_nil)))), ?_⟩
    have hrl := hR.1
    refine ⟨.ref tp, rfl, tp, rs, rfl, .inr htp, ?_⟩
    obtain ⟨n, hn⟩ : ∃ n, n = t.length := ⟨_, rfl⟩
    rw [← hn] at q
    refine ⟨.int (rs.length : Int), rfl, _, rfl, by omega, by omega, fun D hDn => ?_⟩
    have e0 : (rs.length : Int).toNat = n := by omega
    rw [e0]
    refine ⟨fun i m Hx => m = n - i ∧ i ≤ n ∧ ∃ acc, Hx D = some (.lst acc) ∧ Prs K Hx acc (ppre n i) ∧ Sm H Hx, ⟨n, by omega, by omega, [], upd_same, Prs.nil, Sm.new hDn⟩, ?_⟩
    rintro i m Hx ⟨rfl, hi, acc, h1, h2, h3⟩
    by_cases hlt : i < n
    · refine .inr ⟨hlt, fun Hy => ∃ acc, Hy D = some (.lst acc) ∧ Prs K Hy acc (ppre n (i + 1)) ∧ Sm H Hy, fun Hy hy => ⟨n - (i + 1), by omega, rfl, by omega, hy⟩, fun x Hy hy => ?_⟩
      obtain ⟨rfl, rfl⟩ := hy
      refine ⟨rfl, ?_⟩
      refine ⟨.int (0 + (i : Int)), rfl, _, _, rfl, rfl, .int (rs.length : Int), rfl, _, _, rfl, ⟨by omega, by omega, by omega, by omega⟩, ?_⟩
      have e1 : ((rs.length : Int) - (0 + (i : Int) + 1)).toNat = n - (i + 1) := by omega
      rw [e1]
      refine ⟨fun j k Hz => k = n - (i + 1) - j ∧ j ≤ n - (i + 1) ∧ ∃ acc, Hz D = some (.lst acc) ∧ Prs K Hz acc (ppre n i ++ (prow n i).take j) ∧ Sm H Hz, ⟨n - (i + 1), by omega, by omega, acc, h1, by rw [List.take_zero, List.append_nil]; exact h2, h3⟩, ?_⟩
      rintro j k Hz ⟨rfl, hj, acc2, g1, g2, g3⟩
      by_cases hjl : j < n - (i + 1)
      · refine .inr ⟨hjl, fun Hy => ∃ acc, Hy D = some (.lst acc) ∧ Prs K Hy acc (ppre n i ++ (prow n i).take (j + 1)) ∧ Sm H Hy, fun Hy hy => ⟨n - (i + 1) - (j + 1), by omega, rfl, by omega, hy⟩, fun x Hy hy => ?_⟩
        obtain ⟨rfl, rfl⟩ := hy
        refine ⟨rfl, .int (0 + (i : Int)), rfl, .int (0 + (i : Int) + 1 + (j : Int)), rfl, (by show 2 ≤ sizeLine; decide), fun p hp => ?_⟩
        have g1' := Sm.new (o := .tup [.int (0 + (i : Int)), .int (0 + (i : Int) + 1 + (j : Int))]) hp _ _ g1
        have hln : acc2.length < sizeLine := by
          have z1 := ppre_len_le n i
          have z2 : i * n ≤ 20 * 20 := Nat.mul_le_mul (by omega) (by omega)
          have z3 := g2.1
          rw [List.length_append, List.length_take, prow_len] at z3
          exact small1000 (by omega)
        refine ⟨acc2, g1', hln, _, upd_same, ?_, ?_⟩
        · rw [prow_take n i j hjl, ← List.append_assoc]
          refine ((g2.same (Sm.new hp)).append (Prs.one ?_)).upd g1'
          have e2 : (.tup [.int (0 + (i : Int)), .int (0 + (i : Int) + 1 + (j : Int))] : HO) = .tup [.int (i : Int), .int ((i + 1 + j : Nat) : Int)] := by
            rw [Int.zero_add, show (i : Int) + 1 + (j : Int) = ((i + 1 + j : Nat) : Int) by omega]
          rw [e2]
          exact SqT.of upd_same
        · intro b o e
          rw [upd_ne (ne_of_none e hDn)]
          exact Sm.new hp _ _ (g3 b o e)
      · have ej : j = n - (i + 1) := by omega
        subst ej
        refine .inl ⟨Nat.le_refl _, acc2, g1, ?_, g3⟩
        rw [ppre_succ]
        rw [List.take_of_length_le (by rw [prow_len]; exact Nat.le_refl _)] at g2
        exact g2
    · have ei : i = n := by omega
      subst ei
      refine .inl ⟨Nat.le_refl _, D, _, rfl, .inl ⟨SqL.of h1, fun p hp => ?_⟩⟩
      exact q _ p acc (h3.trans (Sm.new hp)) (SqT.of upd_same) (h2.same (Sm.new hp))
end
/-! ### ascending lists -/
theorem mem_flat_take {t : List (List Int)} {i : Nat} (hi : i < t.length) (k : Int) : k ∈ (t.take (i + 1)).flatten ↔ k ∈ (t.take i).flatten ∨ k ∈ t.getD i [] := by
  have e : t.take (i + 1) = t.take i ++ [t.getD i []] := by
    rw [List.take_add_one, List.getD_eq_getElem?_getD, List.getElem?_eq_getElem hi]
    rfl
  rw [e, List.flatten_append, List.mem_append, List.flatten_cons, List.flatten_nil, List.append_nil]
theorem mem_take_succ {ns : List Int} {j : Nat} {x : Int} (h : ns[j]? = some x) (k : Int) : k ∈ ns.take (j + 1) ↔ k ∈ ns.take j ∨ k = x := by
  rw [List.take_add_one, h]
  simp
section
variable {P : Program} {w : World} {K : PySem.W.Frag} {mg : Str → Option Value} {base : Heap}
/-! ### the program: the levels of a table; nested or not -/
def sp_lvs (K : PySem.W.Frag) : Sp := fun vs H Q _ => ∃ (tv : V) (t : List (List Int)), vs = [tv] ∧ TT K H tv t ∧ WT t ∧ t.length ≤ 20 ∧ ∀ (H' : Hp) (p : Addr) (ns : List Int), Sm H H' → SqT K H' p (ns.map V.int) → ns.Pairwise (· < ·) → (∀ k, k ∈ ns ↔ k ∈ t.flatten) → ns.length ≤ 400 → Q (.ref p) H'
theorem ok_lvs {f : Addr} {fd : FuncData} {k : Nat} (F : Fun K "levels_of" "levels_of" s_levels_of f fd) (B : Bi mg) : FnOk P w K mg base CX0 (k + 1) f fd ["table"] (sp_lvs K) := by
  refine F.ok sc_levels_of (fun vs H Q E h => ?_) (fun cdv A outer s H vs Q E hr h => ?_)
  · obtain ⟨tv, t, rfl, _⟩ := h
    rfl
  · obtain ⟨tv, t, rfl, ⟨tp, rs, rfl, htp, hR⟩, hW, h20, q⟩ := h
    have nd := sc_levels_of.nd
    refine ⟨_, pss_one (ps_ret (pe_callTy call_tuple_of (by rfl) B.tuple (by decide +kernel) (pa_cons (pe_callB (cr_sortS rfl) (by rfl) B.sorted (by decide +kernel) (pa_cons
      (pe_si2 (own := [("row", 1), ("level", 2)]) (vs1 := [2]) (g := gName 1) (g1 := gName 2) (wi1 := iTup K (tVar 1)) rfl nd (pi_tup (pv 0)) (blkOk_by (N := N_levels_of) (sc := defScope s_levels_of) (by decide +kernel)) (by decide)
        (fun _ _ _ _ _ => pg_name (i := 1) nd rfl (.inl rfl)) (fun _ _ _ _ _ => pi_tup (pv 1)) (fun _ _ _ _ _ => pg_name (i := 2) nd rfl (.inl rfl)) (fun _ _ _ _ _ => pv 2)) pa_nil)) pa_nil))), ?_⟩
    have hrl := hR.1
    refine ⟨.ref tp, rfl, tp, rfl, ⟨_, htp⟩, fun D hDn => ?_⟩
    refine ⟨fun i m Hx => m = rs.length - i ∧ i ≤ rs.length ∧ ∃ S n, Hx D = some (SetO w D S n) ∧ (∀ k, S k = true ↔ k ∈ (t.take i).flatten) ∧ n ≤ 20 * i ∧ Sm H Hx, ⟨rs.length, by omega, by omega, _, 0, upd_same, fun k => by simp, by omega, Sm.new hDn⟩, ?_⟩
    rintro i m Hx ⟨rfl, hi, S, n, h1, h2, h3, h4⟩
    by_cases hlt : i < rs.length
    · have hit : i < t.length := by omega
      obtain ⟨v, p, hv, rfl, hp⟩ := hR.get hit
      obtain ⟨l1, l2⟩ := hW.row hit
      refine .inr ⟨⟨rs, _, h4.sqT htp, hv⟩, fun Hy => ∃ S n, Hy D = some (SetO w D S n) ∧ (∀ k, S k = true ↔ k ∈ (t.take (i + 1)).flatten) ∧ n ≤ 20 * (i + 1) ∧ Sm H Hy, fun Hy hy => ⟨rs.length - (i + 1), by omega, rfl, by omega, hy⟩, fun x Hy hy => ?_⟩
      obtain ⟨rfl, hy⟩ := hy
      obtain rfl : x = .ref p := Option.some.inj ((hy rs (h4.sqT htp)).symm.trans hv)
      refine ⟨rfl, .ref p, rfl, p, rfl, ⟨_, h4.sqT hp⟩, ?_⟩
      refine ⟨fun j k Hz => k = i - j ∧ j ≤ i ∧ ∃ S n, Hz D = some (SetO w D S n) ∧ (∀ k, S k = true ↔ (k ∈ (t.take i).flatten ∨ k ∈ (t.getD i []).take j)) ∧ n ≤ 20 * i + j ∧ Sm H Hz, ⟨i, by omega, by omega, S, n, h1, fun k => by rw [h2 k]; simp, by omega, h4⟩, ?_⟩
      rintro j k Hz ⟨rfl, hj, S1, n1, g1, g2, g3, g4⟩
      by_cases hjl : j < i
      · have hjr : j < (t.getD i []).length := by omega
        have hat := getD_at hjr
        refine .inr ⟨⟨_, _, g4.sqT hp, map_at hat⟩, fun Hy => ∃ S n, Hy D = some (SetO w D S n) ∧ (∀ k, S k = true ↔ (k ∈ (t.take i).flatten ∨ k ∈ (t.getD i []).take (j + 1))) ∧ n ≤ 20 * i + (j + 1) ∧ Sm H Hy, fun Hy hy => ⟨i - (j + 1), by omega, rfl, by omega, hy⟩, fun x Hy hy => ?_⟩
        obtain ⟨rfl, hy⟩ := hy
        obtain rfl : x = .int ((t.getD i []).getD j 0) := Option.some.inj ((hy _ (g4.sqT hp)).symm.trans (map_at hat))
        refine ⟨rfl, _, rfl, _, S1, n1, rfl, g1, by unfold scanBound; omega, _, _, upd_same, fun k => ?_, ?_, ?_⟩
        · rw [mem_take_succ hat k, Bool.or_eq_true, g2 k, decide_eq_true_iff]
          exact or_assoc
        · split <;> omega
        · intro b o e
          rw [upd_ne (ne_of_none e hDn)]
          exact g4 b o e
      · have ej : j = i := by omega
        subst ej
        refine .inl ⟨⟨_, g4.sqT hp, by rw [List.length_map, l1]; exact Nat.le_refl _⟩, S1, n1, g1, fun k => ?_, by omega, g4⟩
        rw [g2 k, mem_flat_take hit k, List.take_of_length_le (l := t.getD j []) (by omega)]
    · have ei : i = rs.length := by omega
      refine .inl ⟨⟨rs, h4.sqT htp, by omega⟩, D, S, n, rfl, h1, by omega, fun ns p5 srt mem len hp5 => ?_⟩
      refine ⟨p5, _, rfl, .inl ⟨SqL.of upd_same, fun p6 hp6 => ?_⟩⟩
      refine q _ p6 ns ((h4.trans (Sm.new hp5)).trans (Sm.new hp6)) (SqT.of upd_same) srt (fun k => ?_) (by omega)
      rw [mem k, h2 k, ei, hrl, List.take_length]
end
/-! ### the program: the greatest gap -/
def Gp (t : List (List Int)) (g : Int) : Prop := (∃ i j, i < t.length ∧ j < t.length ∧ g = lev t i j - jn t i j) ∧ ∀ a b, a < t.length → b < t.length → lev t a b - jn t a b ≤ g
theorem Gp.nn {t : List (List Int)} {g : Int} (h : Gp t g) : 0 ≤ g := by
  obtain ⟨⟨i, j, _, _, rfl⟩, _⟩ := h
  have : jn t i j ≤ lev t i j := fw_le _ _ _
  omega
theorem Gp.uniq {t : List (List Int)} {g g' : Int} (h : Gp t g) (h' : Gp t g') : g = g' := by
  obtain ⟨⟨i, j, hi, hj, rfl⟩, h2⟩ := h
  obtain ⟨⟨i', j', hi', hj', rfl⟩, h2'⟩ := h'
  exact Int.le_antisymm (h2' i j hi hj) (h2 i' j' hi' hj')
theorem gap_all {t : List (List Int)} (hW : WT t) {g : Int} (h0 : 0 ≤ g) (h : ∀ a b, a < b → b < t.length → lev t a b - jn t a b ≤ g) : ∀ a b, a < t.length → b < t.length → lev t a b - jn t a b ≤ g := by
  intro a b ha hb
  rcases Nat.lt_trichotomy a b with e | e | e
  · exact h a b e hb
  · subst e
    rw [lev_self, jn_diag hW ha]
    exact h0
  · rw [lev_comm, jn_sym hW]
    exact h b a e ha
abbrev gapRow (t : List (List Int)) (p : Nat × Nat) : Int × List Int := (lev t p.1 p.2 - jn t p.1 p.2, [(p.1 : Int), (p.2 : Int)])
abbrev gapL (t : List (List Int)) (p : Nat × Nat) : List Int := [lev t p.1 p.2 - jn t p.1 p.2, (p.1 : Int), (p.2 : Int)]
theorem gap_best {t : List (List Int)} (hW : WT t) {i : Nat} {x : PyData} {zs : List PyData} (e : ((ppre t.length t.length).map (gapL t)).map rowD = x :: zs) (hx : (((ppre t.length t.length).map (gapL t)).map rowD)[i]? = some (PySem.W.maxD x zs)) :
    ∃ a b, (ppre t.length t.length)[i]? = some (a, b) ∧ a < b ∧ b < t.length ∧ ∀ a' b', a' < t.length → b' < t.length → lev t a' b' - jn t a' b' ≤ lev t a b - jn t a b := by
  cases hP : ppre t.length t.length with
  | nil => rw [hP] at e; cases e
  | cons p0 L =>
    rw [hP] at e hx
    have e1 : x = rowD ((gapRow t p0).1 :: (gapRow t p0).2) := (List.cons.inj e).1.symm
    have e2 : zs = (L.map (gapRow t)).map fun y => rowD (y.1 :: y.2) := by
      rw [← (List.cons.inj e).2, List.map_map, List.map_map]
      rfl
    obtain ⟨z, hz, ez, hall⟩ := max_rows (L.map (gapRow t)) (gapRow t p0)
    rw [e1, e2, ez] at hx
    rw [List.getElem?_map, List.getElem?_map] at hx
    cases hp : (p0 :: L)[i]? with
    | none => rw [hp] at hx; cases hx
    | some p =>
      rw [hp] at hx
      have hx1 : rowD (gapL t p) = rowD (z.1 :: z.2) := Option.some.inj hx
      have hz1 : lev t p.1 p.2 - jn t p.1 p.2 = z.1 := by
        have h1 := PyData.tuple.inj hx1
        have h2 := (List.cons.inj h1).1
        exact PyData.int.inj h2
      have hmem : (p.1, p.2) ∈ ppre t.length t.length := by rw [hP]; exact List.mem_of_getElem? hp
      have hm := mem_ppre.mp hmem
      refine ⟨p.1, p.2, rfl, hm.2.1, hm.2.2, gap_all hW ?_ fun a b hab hb => ?_⟩
      · have : jn t p.1 p.2 ≤ lev t p.1 p.2 := fw_le _ _ _
        omega
      · have hab' : (a, b) ∈ ppre t.length t.length := mem_ppre.mpr ⟨by omega, hab, hb⟩
        rw [hP] at hab'
        have hmm : gapRow t (a, b) ∈ gapRow t p0 :: L.map (gapRow t) := List.mem_map_of_mem (f := gapRow t) hab'
        have := hall _ hmm
        rw [hz1]
        exact this
section
variable {P : Program} {w : World} {K : PySem.W.Frag} {mg : Str → Option Value} {base : Heap}
structure GapDefs (K : PySem.W.Frag) (mg : Str → Option Value) : Prop where
  G : GridDefs K mg
  pairs : ∃ f fd, Df K mg "pairs_of" s_pairs_of f fd ["table"]
  widest : ∃ f fd, Df K mg "widest_pair" s_widest_pair f fd ["table"]
  gap : ∃ f fd, Df K mg "greatest_gap" s_greatest_gap f fd ["table"]
def sp_widest (K : PySem.W.Frag) : Sp := fun vs H Q _ => ∃ (tv : V) (t : List (List Int)), vs = [tv] ∧ TT K H tv t ∧ WT t ∧ 1 ≤ t.length ∧ t.length ≤ 20 ∧
  ∀ (H' : Hp) (p : Addr) (i j : Nat), Sm H H' → i < t.length → j < t.length → Gp t (lev t i j - jn t i j) → SqT K H' p [.int (lev t i j - jn t i j), .int (i : Int), .int (j : Int)] → Q (.ref p) H'
theorem ok_widest {f : Addr} {fd : FuncData} (F : Fun K "widest_pair" "widest_pair" s_widest_pair f fd) (T : GapDefs K mg) : FnOk P w K mg base CX0 4 f fd ["table"] (sp_widest K) := by
  have B := T.G.B
  obtain ⟨fL, fdL, DL⟩ := T.G.lb
  obtain ⟨fP, fdP, DP⟩ := T.pairs
  obtain ⟨fG, fdG, DG⟩ := T.G.jgrid
  have GL : FnOk P w K mg base CX0 3 fL fdL ["table", "one", "other"] (sp_lb K) := ok_lb DL.F B
  have GP : FnOk P w K mg base CX0 3 fP fdP ["table"] (sp_pairs K) := ok_pairs DP.F B
  have GG : FnOk P w K mg base CX0 3 fG fdG ["table"] (sp_jgrid K) := ok_jgrid DG.F T.G
  refine F.ok sc_widest_pair (fun vs H Q E h => ?_) (fun cdv A outer s H vs Q E hr h => ?_)
  · obtain ⟨tv, t, rfl, _⟩ := h
    rfl
  · obtain ⟨tv, t, rfl, hT, hW, h1, h20, q⟩ := h
    have nd := sc_widest_pair.nd
    refine ⟨_, pss_cons (ps_set (i := 1) nd rfl (.inr rfl) (pe_cl DG GG hr (pa_cons (pv 0) pa_nil)))
      (pss_one (ps_ret (pe_callBK (crK_max rfl hr.units) (by rfl) B.max (by decide +kernel) (pa_cons
        (pe_lc (own := [("one", 2), ("other", 3)]) (g := gTup K 2 (gCons (gName 2) (gCons (gName 3) gNil))) (tt := tYes) rfl nd (pi_tup (pe_cl DP GP hr (pa_cons (pv 0) pa_nil))) (blkOk_by (N := N_widest_pair) (sc := defScope s_widest_pair) (by decide +kernel))
          (fun _ _ _ _ _ => pg_tup rfl (pgs_cons (pg_name (i := 2) nd rfl (.inl rfl)) (pgs_cons (pg_name (i := 3) nd rfl (.inl rfl)) pgs_nil))) (fun _ _ _ _ _ => pts_nil)
          (te := tTup (tCons (tOp (rI0 fun i j => .int (i - j)) (tCall (sp_lb K) [] E0 (tCons (tVar 0) (tCons (tVar 2) (tCons (tVar 3) tNil)))) (tOp (rIxL K) (tOp (rIxL K) (tVar 1) (tVar 2)) (tVar 3))) (tCons (tVar 2) (tCons (tVar 3) tNil))))
          (fun _ _ _ _ _ => pe_tup (pa_cons (pe_op op_sub (pe_cl DL GL hr (pa_cons (pv 0) (pa_cons (pv 2) (pa_cons (pv 3) pa_nil)))) (pe_ix ix_list (pe_ix ix_list (pv 1) (pv 2) (fun _ _ => rfl)) (pv 3) (fun _ _ => rfl))) (pa_cons (pv 2) (pa_cons (pv 3) pa_nil))))) pa_nil)
        (pk_cons (pe_tup (pa_cons pe_int (pa_cons pe_int (pa_cons pe_int pa_nil)))) pk_nil)))), ?_⟩
    refine ⟨tv, rfl, tv, t, rfl, hT, hW, h20, fun H5 o ps s5 ho hR => ?_⟩
    have hT5 := hT.same s5
    refine ⟨tv, rfl, tv, t, rfl, hT5, h20, fun H6 pp vs0 s6 hpp hP0 => ?_⟩
    refine ⟨pp, rfl, ⟨_, hpp⟩, fun D2 hD2 => lc_tup (xs := vs0) (fun i Hx => ∃ xs, Hx D2 = some (.lst xs) ∧ Rows K Hx xs (((ppre t.length t.length).take i).map (gapL t)) ∧ Sm H6 Hx) ⟨[], upd_same, by rw [List.take_zero]; exact Rows.nil, Sm.new hD2⟩ (fun i Hx _ hP => ?_) (fun i v Hx hv hP => ?_) (fun Hx hP => ?_)⟩
    · obtain ⟨_, _, _, sx⟩ := hP
      exact sx.sqT hpp
    · obtain ⟨xs, k1, k2, sx⟩ := hP
      have hm2 : i < (ppre t.length t.length).length := by rw [← hP0.1]; exact (List.getElem?_eq_some_iff.mp hv).1
      obtain ⟨⟨a, b⟩, hab⟩ : ∃ z, (ppre t.length t.length)[i]? = some z := ⟨_, List.getElem?_eq_getElem hm2⟩
      obtain ⟨vp, rfl, hvp⟩ := hP0.2 i v _ hv hab
      have hmem := mem_ppre.mp (List.mem_of_getElem? hab)
      have ha : a < t.length := by omega
      have hb : b < t.length := by omega
      have sy := s6.trans sx
      refine ⟨vp, _, rfl, sx.sqT hvp, rfl, _, _, rfl, _, _, rfl, rfl, rfl, ?_⟩
      obtain ⟨rp, hrp, hrow⟩ := hR.get (i := a) (by rw [sqr_len]; exact ha)
      rw [sqr_row _ ha] at hrow
      refine ⟨tv, rfl, .int (a : Int), rfl, .int (b : Int), rfl, tv, t, a, b, rfl, hT5.same sy, hW, ha, hb, ?_⟩
      refine ⟨.ref o, rfl, .int (a : Int), rfl, o, _, _, _, rfl, rfl, SqL.of (sy _ _ ho), atI_nat (refs_at hrp), .int (b : Int), rfl, rp, _, _, _, rfl, rfl, SqL.of (sy _ _ hrow), atI_nat (range_at _ hb), ?_⟩
      refine ⟨_, _, rfl, rfl, .int (a : Int), rfl, .int (b : Int), rfl, (by show 3 ≤ sizeLine; decide), fun p8 hp8 => ?_⟩
      have s78 := Sm.new (o := .tup [.int (lev t a b - jn t a b), .int (a : Int), .int (b : Int)]) hp8
      have hxl := k2.1
      have hlen : xs.length ≤ 400 := by
        rw [hxl, List.length_map]
        refine Nat.le_trans (by rw [List.length_take]; exact Nat.min_le_right _ _) (Nat.le_trans (ppre_len_le _ _) (show t.length * t.length ≤ 20 * 20 from Nat.mul_le_mul h20 h20))
      refine ⟨_, s78 _ _ k1, small1000 (by omega), _, upd_same, ?_, ?_⟩
      · rw [List.take_add_one, hab, List.map_append]
        exact ((k2.same s78).snoc ⟨p8, rfl, SqT.of upd_same⟩).upd (s78 _ _ k1)
      · intro c u e
        rw [upd_ne (ne_of_none e hD2)]
        exact s78 _ _ (sx c u e)
    · obtain ⟨xs, k1, k2, sx⟩ := hP
      rw [hP0.1, List.take_length] at k2
      refine ⟨(by show 3 ≤ sizeLine; decide), fun dp hdp => ?_⟩
      have s9 := Sm.new (o := .tup [.int 0, .int 0, .int 0]) hdp
      have sA := ((s5.trans s6).trans sx).trans s9
      have k2' := k2.same s9
      refine ⟨D2, xs, .ref dp, ((ppre t.length t.length).map (gapL t)).map rowD, rfl, rfl, SqL.of (s9 _ _ k1), rows_dp k2', alike_rows _, by have := dep_rows ((ppre t.length t.length).map (gapL t)); omega, fun e => ?_, fun i y x zs e hy hx => ?_⟩
      · have e0 : ppre t.length t.length = [] := List.map_eq_nil_iff.mp (List.map_eq_nil_iff.mp e)
        have g0 : lev t 0 0 - jn t 0 0 = 0 := by rw [lev_self, jn_diag hW (by omega)]; rfl
        refine q _ dp 0 0 sA (by omega) (by omega) ⟨⟨0, 0, by omega, by omega, rfl⟩, fun a b ha hb => ?_⟩ (by rw [g0]; exact SqT.of upd_same)
        rw [g0]
        refine gap_all hW (Int.le_refl _) (fun a b hab hb => ?_) a b ha hb
        have : (a, b) ∈ ppre t.length t.length := mem_ppre.mpr ⟨by omega, hab, hb⟩
        rw [e0] at this
        cases this
      · obtain ⟨a, b, hab, h2, h3, h4⟩ := gap_best hW e hx
        have hyR : ((ppre t.length t.length).map (gapL t))[i]? = some (gapL t (a, b)) := by rw [List.getElem?_map, hab]; rfl
        obtain ⟨yp, rfl, hyp⟩ := k2'.2 i y _ hy hyR
        exact q _ yp a b sA (by omega) h3 ⟨⟨a, b, by omega, h3, rfl⟩, h4⟩ hyp
def sp_gap (K : PySem.W.Frag) : Sp := fun vs H Q _ => ∃ (tv : V) (t : List (List Int)), vs = [tv] ∧ TT K H tv t ∧ WT t ∧ 1 ≤ t.length ∧ t.length ≤ 20 ∧ ∀ (H' : Hp) (g : Int), Sm H H' → Gp t g → Q (.int g) H'
theorem ok_gap {f : Addr} {fd : FuncData} (F : Fun K "greatest_gap" "greatest_gap" s_greatest_gap f fd) (T : GapDefs K mg) : FnOk P w K mg base CX0 5 f fd ["table"] (sp_gap K) := by
  obtain ⟨fW, fdW, DW⟩ := T.widest
  have GW : FnOk P w K mg base CX0 4 fW fdW ["table"] (sp_widest K) := ok_widest DW.F T
  refine F.ok sc_greatest_gap (fun vs H Q E h => ?_) (fun cdv A outer s H vs Q E hr h => ?_)
  · obtain ⟨tv, t, rfl, _⟩ := h
    rfl
  · obtain ⟨tv, t, rfl, hT, hW, h1, h20, q⟩ := h
    refine ⟨_, pss_one (ps_ret (pe_ix ix_tup (pe_cl DW GW hr (pa_cons (pv 0) pa_nil)) pe_int (fun _ _ => rfl))), ?_⟩
    exact ⟨tv, rfl, tv, t, rfl, hT, hW, h1, h20, fun H' p i j sH hi hj hg hp => ⟨p, _, _, _, rfl, rfl, hp, rfl, q H' _ sH hg⟩⟩
def sp_least (K : PySem.W.Frag) : Sp := fun vs H Q _ => ∃ (tv : V) (t : List (List Int)), vs = [tv] ∧ TT K H tv t ∧ WT t ∧ 1 ≤ t.length ∧ t.length ≤ 20 ∧ ∀ (H' : Hp) (g : Int), Sm H H' → Gp t g → Q (.int ((g + 1) / 2)) H'
theorem ok_least {f : Addr} {fd : FuncData} (F : Fun K "least_deviation" "least_deviation" s_least_deviation f fd) (T : GapDefs K mg) : FnOk P w K mg base CX0 6 f fd ["table"] (sp_least K) := by
  obtain ⟨fW, fdW, DW⟩ := T.gap
  have GW : FnOk P w K mg base CX0 5 fW fdW ["table"] (sp_gap K) := ok_gap DW.F T
  refine F.ok sc_least_deviation (fun vs H Q E h => ?_) (fun cdv A outer s H vs Q E hr h => ?_)
  · obtain ⟨tv, t, rfl, _⟩ := h
    rfl
  · obtain ⟨tv, t, rfl, hT, hW, h1, h20, q⟩ := h
    refine ⟨_, pss_one (ps_ret (pe_op op_fdivW (pe_op op_add (pe_cl DW GW hr (pa_cons (pv 0) pa_nil)) pe_int) pe_int)), ?_⟩
    exact ⟨tv, rfl, tv, t, rfl, hT, hW, h1, h20, fun H' g sH hg => ⟨_, _, rfl, rfl, _, _, rfl, rfl, wide_div (b := 64) (by decide) (by decide) (by decide) (by decide), q H' g sH hg⟩⟩
end
theorem row_lev {t : List (List Int)} (hW : WT t) {i : Nat} (hi : i < t.length) : t.getD i [] = (List.range i).map (lev t i) := by
  have e := tri_row (lev t) hi
  rw [tri_lev_self hW] at e
  exact e
/-! ### the program: joining levels raised -/
def liftT (u : List (List Int)) (a m : Int) : List (List Int) := tri (fun i j => min (lev u i j + a) m) u.length
theorem liftT_len (u : List (List Int)) (a m : Int) : (liftT u a m).length = u.length := tri_len _ _
theorem liftT_wt {u : List (List Int)} (hW : WT u) {a m : Int} (h0 : 0 ≤ a) (h1 : 2 ≤ u.length → 1 ≤ m) (h2 : m ≤ 1000000000000) : WT (liftT u a m) := tri_wt fun i j hi hj => by
  have h3 := hW.lev hi (show j < u.length by omega) (by omega)
  have h4 := h1 (by omega)
  unfold LvOk at h3 ⊢
  omega
theorem liftT_take {u : List (List Int)} {a m : Int} {i : Nat} (hi : i < u.length) : (liftT u a m).take (i + 1) = (liftT u a m).take i ++ [(List.range i).map fun j => min (lev u i j + a) m] := by
  unfold liftT
  rw [List.take_add_one, tri_get _ hi]
  rfl
theorem rng_len {α : Type} (f : Nat → Int) (g : Int → α) (n : Nat) : (((List.range n).map f).map g).length = n := by simp
def IsTop (t : List (List Int)) (m : Int) : Prop := (m ∈ t.flatten ∨ (t.flatten = [] ∧ m = 0)) ∧ ∀ x ∈ t.flatten, x ≤ m
theorem IsTop.uniq {t : List (List Int)} {m m' : Int} (h : IsTop t m) (h' : IsTop t m') : m = m' := by
  rcases h with ⟨h | ⟨h, rfl⟩, h2⟩ <;> rcases h' with ⟨h' | ⟨h', rfl⟩, h2'⟩
  · exact Int.le_antisymm (h2' m h) (h2 m' h')
  · rw [h'] at h; cases h
  · rw [h] at h'; cases h'
  · rfl
theorem IsTop.bd {t : List (List Int)} (hW : WT t) {m : Int} (h : IsTop t m) : (2 ≤ t.length → 1 ≤ m) ∧ m ≤ 1000000000000 := by
  refine ⟨fun h2 => ?_, ?_⟩
  · have h3 := hW.lev (i := 1) (j := 0) (by omega) (by omega) (by decide)
    have h4 := lev_mem hW (i := 1) (j := 0) (by omega) (by omega) (by decide)
    have := h.2 _ h4
    unfold LvOk at h3
    omega
  · rcases h.1 with h1 | ⟨_, rfl⟩
    · obtain ⟨ns, hns, hm⟩ := List.mem_flatten.mp h1
      exact (hW.mem ns hns m hm).2
    · decide
section
variable {P : Program} {w : World} {K : PySem.W.Frag} {mg : Str → Option Value} {base : Heap}
def sp_rj (K : PySem.W.Frag) : Sp := fun vs H Q _ => ∃ (tv : V) (t : List (List Int)) (a m : Int), vs = [tv, .int a, .int m] ∧ TT K H tv t ∧ WT t ∧ t.length ≤ 20 ∧ ∀ (H' : Hp) (v : V), Sm H H' → TT K H' v (liftT (jtab t) a m) → Q v H'
theorem ok_rj {f fB : Addr} {fd fdB : FuncData} (F : Fun K "raised_joins" "raised_joins" s_raised_joins f fd) (DB : Df K mg "nested_below" s_nested_below fB fdB ["table"]) (T : GridDefs K mg) : FnOk P w K mg base CX0 5 f fd ["table", "rise", "top"] (sp_rj K) := by
  have B := T.B
  have GB : FnOk P w K mg base CX0 4 fB fdB ["table"] (sp_below K) := ok_below DB.F T
  refine F.ok sc_raised_joins (fun vs H Q E h => ?_) (fun cdv A outer s H vs Q E hr h => ?_)
  · obtain ⟨tv, t, a, m, rfl, _⟩ := h
    rfl
  · obtain ⟨tv, t, am, m, rfl, hT, hW, h20, q⟩ := h
    have nd := sc_raised_joins.nd
    refine ⟨_, pss_one (ps_ret (pe_callTy call_tuple_of (by rfl) B.tuple (by decide +kernel) (pa_cons
      (pe_lc (own := [("row", 3)]) (g := gName 3) (tt := tYes) rfl nd (pi_tup (pe_cl DB GB hr (pa_cons (pv 0) pa_nil))) (blkOk_by (N := N_raised_joins) (sc := defScope s_raised_joins) (by decide +kernel))
        (fun _ _ _ _ _ => pg_name (i := 3) nd rfl (.inl rfl)) (fun _ _ _ _ _ => pts_nil)
        (te := tCB (rTup K) (tCons (tLc (iTup K (tVar 3)) (gName 4) tYes (tCB rMn (tCons (tOp (rI0 fun i j => .int (i + j)) (tVar 4) (tVar 1)) (tCons (tVar 2) tNil))) [4]) tNil))
        (fun _ _ _ _ _ => pe_callTy call_tuple_of (by rfl) B.tuple (by decide +kernel) (pa_cons
          (pe_lc (own := [("level", 4)]) (g := gName 4) (tt := tYes) rfl nd (pi_tup (pv 3)) (blkOk_by (N := N_raised_joins) (sc := relS (lcScope (argE (stE (stAt (defBody s_raised_joins) 0)))) (defScope s_raised_joins)) (by decide +kernel))
            (fun _ _ _ _ _ => pg_name (i := 4) nd rfl (.inl rfl)) (fun _ _ _ _ _ => pts_nil)
            (fun _ _ _ _ _ => pe_callB (call_min2 rfl) (by rfl) B.min (by decide +kernel) (pa_cons (pe_op op_add (pv 4) (pv 1)) (pa_cons (pv 2) pa_nil)))) pa_nil))) pa_nil))), ?_⟩
    refine ⟨tv, rfl, tv, t, rfl, hT, hW, h20, fun H1 jv s1 hJ => ?_⟩
    obtain ⟨jp, js, rfl, hjp, hR⟩ := id hJ
    have hjw := jtab_wt hW
    have hl := hR.1
    have hjl := jtab_len t
    obtain ⟨u, hu⟩ : ∃ u, u = jtab t := ⟨_, rfl⟩
    rw [← hu] at hR hjw hl hjl q
    refine ⟨jp, rfl, ⟨_, hjp⟩, fun D hDn => lc_tup (xs := js) (fun i Hx => ∃ xs, Hx D = some (.lst xs) ∧ Rows K Hx xs ((liftT u am m).take i) ∧ Sm H1 Hx) ⟨[], upd_same, by rw [List.take_zero]; exact Rows.nil, Sm.new hDn⟩ (fun i Hx _ hP => ?_) (fun i v Hx hv hP => ?_) (fun Hx hP => ?_)⟩
    · obtain ⟨_, _, _, sx⟩ := hP
      exact sx.sqT hjp
    · obtain ⟨xs, k1, k2, sx⟩ := hP
      have hi : i < u.length := by
        have := (List.getElem?_eq_some_iff.mp hv).1
        omega
      obtain ⟨va, qa, ea, rfl, ha⟩ := hR.get hi
      obtain rfl : v = .ref qa := Option.some.inj (hv.symm.trans ea)
      rw [row_lev hjw hi] at ha
      refine ⟨rfl, .ref qa, rfl, qa, rfl, ⟨_, sx.sqT ha⟩, fun D2 hD2 => lc_tup (xs := ((List.range i).map (lev u i)).map V.int) (fun j Hy => Hy D2 = some (.lst (((List.range j).map fun j => min (lev u i j + am) m).map V.int)) ∧ Sm Hx Hy) ⟨upd_same, Sm.new hD2⟩ (fun j Hy _ hP => (sx.trans hP.2).sqT ha) (fun j x Hy hx hP => ?_) (fun Hy hP => ?_)⟩
      · obtain ⟨g1, g2⟩ := hP
        have hj : j < i := by
          have := (List.getElem?_eq_some_iff.mp hx).1
          simpa using this
        obtain rfl : x = .int (lev u i j) := Option.some.inj (hx.symm.trans (range_at _ hj))
        refine ⟨rfl, .int (lev u i j), rfl, .int am, rfl, _, _, rfl, rfl, .int m, rfl, _, _, rfl, _, g1, ?_, ?_, ?_⟩
        · rw [List.length_map, List.length_map, List.length_range]
          exact small1000 (by omega)
        · rw [upd_same, range_map_succ, List.map_append, show (if m < lev u i j + am then m else lev u i j + am) = min (lev u i j + am) m by split <;> omega]
          rfl
        · intro c z e
          rw [upd_ne (ne_of_none e hD2)]
          exact g2 c z e
      · obtain ⟨g1, g2⟩ := hP
        rw [rng_len] at g1
        refine ⟨D2, _, rfl, .inl ⟨SqL.of g1, fun l hl' => ?_⟩⟩
        have s3 := g2.trans (Sm.new (o := .tup (((List.range i).map fun j => min (lev u i j + am) m).map V.int)) hl')
        have hxl := k2.1
        rw [List.length_take] at hxl
        refine ⟨_, s3 _ _ k1, small1000 (by omega), _, upd_same, ?_, ?_⟩
        · rw [liftT_take hi]
          exact ((k2.same s3).snoc ⟨l, rfl, SqT.of upd_same⟩).upd (s3 _ _ k1)
        · intro c z e
          rw [upd_ne (ne_of_none e hDn)]
          exact s3 _ _ (sx c z e)
    · obtain ⟨xs, k1, k2, sx⟩ := hP
      rw [List.take_of_length_le (by rw [liftT_len]; omega)] at k2
      refine ⟨D, _, rfl, .inl ⟨SqL.of k1, fun l hl' => ?_⟩⟩
      exact q _ _ ((s1.trans sx).trans (Sm.new hl')) ⟨l, xs, rfl, SqT.of upd_same, k2.same (Sm.new hl')⟩
structure NearDefs (K : PySem.W.Frag) (mg : Str → Option Value) : Prop where
  J : GapDefs K mg
  least : ∃ f fd, Df K mg "least_deviation" s_least_deviation f fd ["table"]
  lvs : ∃ f fd, Df K mg "levels_of" s_levels_of f fd ["table"]
  below : ∃ f fd, Df K mg "nested_below" s_nested_below f fd ["table"]
  rj : ∃ f fd, Df K mg "raised_joins" s_raised_joins f fd ["table", "rise", "top"]
  LEVEL : ∃ t, mg "LEVEL" = some (.int 1000000000000 t)
def sp_nearest (K : PySem.W.Frag) : Sp := fun vs H Q _ => ∃ (tv : V) (t : List (List Int)), vs = [tv] ∧ TT K H tv t ∧ WT t ∧ 1 ≤ t.length ∧ t.length ≤ 20 ∧ ∀ (H' : Hp) (v : V) (g m : Int), Sm H H' → Gp t g → IsTop t m → TT K H' v (liftT (jtab t) ((g + 1) / 2) m) → Q v H'
theorem ok_nearest {f : Addr} {fd : FuncData} (F : Fun K "nearest_table" "nearest_table" s_nearest_table f fd) (T : NearDefs K mg) : FnOk P w K mg base CX0 7 f fd ["table"] (sp_nearest K) := by
  have B := T.J.G.B
  obtain ⟨fA, fdA, DA⟩ := T.least
  obtain ⟨fB, fdB, DB⟩ := T.lvs
  obtain ⟨fC, fdC, DC⟩ := T.below
  obtain ⟨fR, fdR, DR⟩ := T.rj
  have GA : FnOk P w K mg base CX0 6 fA fdA ["table"] (sp_least K) := ok_least DA.F T.J
  have GB : FnOk P w K mg base CX0 6 fB fdB ["table"] (sp_lvs K) := ok_lvs DB.F B
  have GR : FnOk P w K mg base CX0 6 fR fdR ["table", "rise", "top"] (sp_rj K) := (ok_rj DR.F DC T.J.G).mono (by decide)
  refine F.ok sc_nearest_table (fun vs H Q E h => ?_) (fun cdv A outer s H vs Q E hr h => ?_)
  · obtain ⟨tv, t, rfl, _⟩ := h
    rfl
  · obtain ⟨tv, t, rfl, hT, hW, h1, h20, q⟩ := h
    refine ⟨_, pss_one (ps_ret (pe_cl DR GR hr (pa_cons (pv 0) (pa_cons (pe_cl DA GA hr (pa_cons (pv 0) pa_nil)) (pa_cons (pe_callBK (crK_maxT rfl hr.units) (by rfl) B.max (by decide +kernel) (pa_cons (pe_cl DB GB hr (pa_cons (pv 0) pa_nil)) pa_nil) (pk_cons pe_int pk_nil)) pa_nil))))), ?_⟩
    refine ⟨tv, rfl, tv, rfl, tv, t, rfl, hT, hW, h1, h20, fun H1 g s1 hg => ?_⟩
    refine ⟨tv, rfl, tv, t, rfl, hT.same s1, hW, h20, fun H2 p ns s2 hp _ hmem _ => ?_⟩
    have s12 := s1.trans s2
    refine ⟨p, ns, .int 0, rfl, rfl, hp, fun e => ?_, fun m hm hle => ?_⟩
    · have e1 : t.flatten = [] := List.eq_nil_iff_forall_not_mem.mpr fun x hx => by
        have := (hmem x).mpr hx
        rw [e] at this
        cases this
      exact ⟨tv, t, _, _, rfl, hT.same s12, hW, h20, fun H3 v s3 hv => q H3 v g 0 (s12.trans s3) hg ⟨.inr ⟨e1, rfl⟩, fun x hx => by rw [e1] at hx; cases hx⟩ hv⟩
    · exact ⟨tv, t, _, _, rfl, hT.same s12, hW, h20, fun H3 v s3 hv => q H3 v g m (s12.trans s3) hg ⟨.inl ((hmem m).mp hm), fun x hx => hle x ((hmem x).mpr hx)⟩ hv⟩
def sp_nwithin (K : PySem.W.Frag) : Sp := fun vs H Q _ => ∃ (tv : V) (t : List (List Int)) (mo : Int), vs = [tv, .int mo] ∧ TT K H tv t ∧ WT t ∧ 1 ≤ t.length ∧ t.length ≤ 20 ∧
  (∀ (H' : Hp) (g : Int), Sm H H' → Gp t g → mo < (g + 1) / 2 → Q .non H') ∧ ∀ (H' : Hp) (v : V) (g : Int), Sm H H' → Gp t g → (g + 1) / 2 ≤ mo → TT K H' v (liftT (jtab t) mo 1000000000000) → Q v H'
theorem ok_nwithin {f : Addr} {fd : FuncData} (F : Fun K "nested_within" "nested_within" s_nested_within f fd) (T : NearDefs K mg) : FnOk P w K mg base CX0 7 f fd ["table", "most"] (sp_nwithin K) := by
  have B := T.J.G.B
  obtain ⟨fA, fdA, DA⟩ := T.least
  obtain ⟨fC, fdC, DC⟩ := T.below
  obtain ⟨fR, fdR, DR⟩ := T.rj
  obtain ⟨tk, gL⟩ := T.LEVEL
  have GA : FnOk P w K mg base CX0 6 fA fdA ["table"] (sp_least K) := ok_least DA.F T.J
  have GR : FnOk P w K mg base CX0 6 fR fdR ["table", "rise", "top"] (sp_rj K) := (ok_rj DR.F DC T.J.G).mono (by decide)
  refine F.ok sc_nested_within (fun vs H Q E h => ?_) (fun cdv A outer s H vs Q E hr h => ?_)
  · obtain ⟨tv, t, mo, rfl, _⟩ := h
    rfl
  · obtain ⟨tv, t, mo, rfl, hT, hW, h1, h20, q1, q2⟩ := h
    refine ⟨_, pss_cons (ps_if (pt_cmpR op_lt (pv 1) (pe_cl DA GA hr (pa_cons (pv 0) pa_nil)) (nomark _)) (pss_one (ps_ret pe_non)) pss_nil)
      (pss_one (ps_ret (pe_cl DR GR hr (pa_cons (pv 0) (pa_cons (pv 1) (pa_cons (pe_glob (v := .int 1000000000000) rfl gL ⟨_, rfl⟩) pa_nil)))))), ?_⟩
    refine ⟨.int mo, rfl, tv, rfl, tv, t, rfl, hT, hW, h1, h20, fun H1 g s1 hg => ⟨_, _, rfl, rfl, _, rfl, ite2 (fun e => ?_) (fun e => ?_)⟩⟩
    · exact q1 H1 g s1 hg (of_decide_eq_true e)
    · have e' : ¬ mo < (g + 1) / 2 := fun z => e (decide_eq_true z)
      exact ⟨tv, rfl, .int mo, rfl, tv, t, mo, _, rfl, hT.same s1, hW, h20, fun H2 v s2 hv => q2 H2 v g (s1.trans s2) hg (by omega) hv⟩
end
theorem nIat {os : List Nat} {m : Nat} {v : V} (h : (nI os)[m]? = some v) : ∃ z : Nat, os[m]? = some z ∧ v = .int (z : Int) := by
  unfold nI at h
  rw [List.getElem?_map] at h
  obtain ⟨z, hz, e⟩ := Option.map_eq_some_iff.mp h
  exact ⟨z, hz, e.symm⟩
section
variable {P : Program} {w : World} {K : PySem.W.Frag} {mg : Str → Option Value} {base : Heap}
/-! ### the program: some of the items -/
theorem nI_take (its : List Nat) (a : Nat) : (nI its).take a = nI (its.take a) := by
  unfold nI
  rw [List.map_take]
theorem nI_len (its : List Nat) : (nI its).length = its.length := by
  unfold nI
  rw [List.length_map]
def sp_pickT (K : PySem.W.Frag) : Sp := fun vs H Q _ => ∃ (tv : V) (t : List (List Int)) (a : Addr) (its : List Nat), vs = [tv, .ref a] ∧ TT K H tv t ∧ WT t ∧ SqT K H a (nI its) ∧ (∀ x ∈ its, x < t.length) ∧ its.length ≤ 20 ∧
  ∀ (H' : Hp) (v : V), Sm H H' → TT K H' v (pick t its) → Q v H'
theorem pick_take {t : List (List Int)} {its : List Nat} {i : Nat} (h : i < its.length) : (pick t its).take (i + 1) = (pick t its).take i ++ [(its.take i).map fun o => lev t (its.getD i 0) o] := by
  have hl : i < (pick t its).length := by rw [pick_len]; exact h
  have e : (pick t its)[i]? = some ((pick t its).getD i []) := by
    rw [List.getD_eq_getElem?_getD, List.getElem?_eq_getElem hl]
    rfl
  rw [List.take_add_one, e, pick_at h]
  rfl
theorem ok_pickT {f fB : Addr} {fd fdB : FuncData} {k : Nat} (F : Fun K "picked" "picked" s_picked f fd) (DB : Df K mg "level_between" s_level_between fB fdB ["table", "one", "other"]) (B : Bi mg) : FnOk P w K mg base CX0 (k + 2) f fd ["table", "items"] (sp_pickT K) := by
  have GB : FnOk P w K mg base CX0 (k + 1) fB fdB ["table", "one", "other"] (sp_lb K) := ok_lb DB.F B
  refine F.ok sc_picked (fun vs H Q E h => ?_) (fun cdv A outer s H vs Q E hr h => ?_)
  · obtain ⟨tv, t, a, its, rfl, _⟩ := h
    rfl
  · obtain ⟨tv, t, a, its, rfl, hT, hW, hA, hlt, h20, q⟩ := h
    have nd := sc_picked.nd
    refine ⟨_, pss_one (ps_ret (pe_callTy call_tuple_of (by rfl) B.tuple (by decide +kernel) (pa_cons
      (pe_lc (own := [("at", 2), ("item", 3)]) (g := gTup K 2 (gCons (gName 2) (gCons (gName 3) gNil))) (tt := tYes) rfl nd (pi_enumT (by rfl) B.enumerate (pa_cons (pv 1) pa_nil)) (blkOk_by (N := N_picked) (sc := defScope s_picked) (by decide +kernel))
        (fun _ _ _ _ _ => pg_tup rfl (pgs_cons (pg_name (i := 2) nd rfl (.inl rfl)) (pgs_cons (pg_name (i := 3) nd rfl (.inr rfl)) pgs_nil))) (fun _ _ _ _ _ => pts_nil)
        (te := tCB (rTup K) (tCons (tLc (iTup K (tSl (rSlW K) (tVar 1) tNoPart (tPart (tVar 2)))) (gName 4) tYes (tCall (sp_lb K) [] E0 (tCons (tVar 0) (tCons (tVar 3) (tCons (tVar 4) tNil)))) [4]) tNil))
        (fun _ _ _ _ _ => pe_callTy call_tuple_of (by rfl) B.tuple (by decide +kernel) (pa_cons
          (pe_lc (own := [("other", 4)]) (g := gName 4) (tt := tYes) rfl nd (pi_tup (pe_slice (slKW K rfl) (pv 1) po_none (po_some (pv 2)))) (blkOk_by (N := N_picked) (sc := relS (lcScope (argE (stE (stAt (defBody s_picked) 0)))) (defScope s_picked)) (by decide +kernel))
            (fun _ _ _ _ _ => pg_name (i := 4) nd rfl (.inl rfl)) (fun _ _ _ _ _ => pts_nil)
            (fun _ _ _ _ _ => pe_cl DB GB hr (pa_cons (pv 0) (pa_cons (pv 3) (pa_cons (pv 4) pa_nil))))) pa_nil))) pa_nil))), ?_⟩
    refine ⟨.ref a, rfl, a, _, rfl, hA, fun D hDn => lc_enumT (xs := nI its) (fun i Hx => ∃ xs, Hx D = some (.lst xs) ∧ Rows K Hx xs ((pick t its).take i) ∧ Sm H Hx) ⟨[], upd_same, by rw [List.take_zero]; exact Rows.nil, Sm.new hDn⟩ (fun i Hx _ hP => ?_) (fun i x Tq Hx hx hP hTq => ?_) (fun Hx hP => ?_)⟩
    · obtain ⟨_, _, _, sx⟩ := hP
      exact sx.sqT hA
    · obtain ⟨xs, k1, k2, sx⟩ := hP
      have hi : i < its.length := by
        have := (List.getElem?_eq_some_iff.mp hx).1
        rw [nI_len] at this
        exact this
      obtain rfl : x = .int ((its.getD i 0 : Nat) : Int) := Option.some.inj (hx.symm.trans (nI_at hi))
      have sT : Sm Hx (upd Hx Tq (.tup [.int (i : Int), .int ((its.getD i 0 : Nat) : Int)])) := Sm.new hTq
      refine ⟨Tq, _, rfl, SqT.of upd_same, rfl, _, _, rfl, _, _, rfl, rfl, rfl, ?_⟩
      refine ⟨.ref a, rfl, .int (i : Int), rfl, _, rfl, a, _, rfl, (sx.trans sT).sqT hA, fun sl Hs ss hsl => ?_⟩
      rw [cut_to, nI_take] at hsl
      have hti : its.getD i 0 < t.length := hlt _ (nat_getD_mem hi)
      have hxl := k2.1
      rw [List.length_take, pick_len] at hxl
      refine ⟨sl, rfl, ⟨_, hsl⟩, fun D2 hD2 => lc_tup (xs := nI (its.take i)) (fun j Hy => Hy D2 = some (.lst (((its.take j).map fun o => lev t (its.getD i 0) o).map V.int)) ∧ Sm Hs Hy) ⟨upd_same, Sm.new hD2⟩ (fun j Hy _ hP => hP.2.sqT hsl) (fun j x Hy hx hP => ?_) (fun Hy hP => ?_)⟩
      · obtain ⟨g1, g2⟩ := hP
        have hj : j < i := by
          have := (List.getElem?_eq_some_iff.mp hx).1
          rw [nI_len, List.length_take] at this
          omega
        have hjt : (its.take i).getD j 0 = its.getD j 0 := by
          rw [List.getD_eq_getElem?_getD, List.getElem?_take_of_lt hj, ← List.getD_eq_getElem?_getD]
        obtain rfl : x = .int ((its.getD j 0 : Nat) : Int) := by
          have e := nI_at (os := its.take i) (k := j) (by rw [List.length_take]; omega)
          rw [hjt] at e
          exact Option.some.inj (hx.symm.trans e)
        refine ⟨rfl, tv, rfl, .int ((its.getD i 0 : Nat) : Int), rfl, .int ((its.getD j 0 : Nat) : Int), rfl, tv, t, its.getD i 0, its.getD j 0, rfl, hT.same (sx.trans (sT.trans (ss.trans g2))), hW, hti, hlt _ (nat_getD_mem (by omega)), _, g1, ?_, ?_, ?_⟩
        · rw [List.length_map, List.length_map, List.length_take]
          exact small1000 (by omega)
        · rw [upd_same, List.take_add_one, nat_getD (by omega)]
          simp
        · intro c z e
          rw [upd_ne (ne_of_none e hD2)]
          exact g2 c z e
      · obtain ⟨g1, g2⟩ := hP
        rw [nI_len, List.length_take, Nat.min_eq_left (by omega)] at g1
        refine ⟨D2, _, rfl, .inl ⟨SqL.of g1, fun l hl' => ?_⟩⟩
        have s3 := (sT.trans (ss.trans g2)).trans (Sm.new (o := .tup (((its.take i).map fun o => lev t (its.getD i 0) o).map V.int)) hl')
        refine ⟨_, s3 _ _ k1, small1000 (by omega), _, upd_same, ?_, ?_⟩
        · rw [pick_take hi]
          exact ((k2.same s3).snoc ⟨l, rfl, SqT.of upd_same⟩).upd (s3 _ _ k1)
        · intro c z e
          rw [upd_ne (ne_of_none e hDn)]
          exact s3 _ _ (sx c z e)
    · obtain ⟨xs, k1, k2, sx⟩ := hP
      rw [List.take_of_length_le (by rw [pick_len, nI_len]; exact Nat.le_refl _)] at k2
      refine ⟨D, _, rfl, .inl ⟨SqL.of k1, fun l hl => ?_⟩⟩
      exact q _ _ (sx.trans (Sm.new hl)) ⟨l, xs, rfl, SqT.of upd_same, k2.same (Sm.new hl)⟩
end
section
variable {P : Program} {w : World} {K : PySem.W.Frag} {mg : Str → Option Value} {base : Heap}
def sp_item (K : PySem.W.Frag) : Sp := fun vs H Q _ => ∃ (tv : V) (t : List (List Int)) (i : Nat), vs = [tv, .int (i : Int)] ∧ TT K H tv t ∧ i < t.length ∧ Q (.bl true) H
theorem ok_item {f fW : Addr} {fd fdW : FuncData} (F : Fun K "is_item" "is_item" s_is_item f fd) (DW : Df K mg "is_whole" s_is_whole fW fdW ["value"]) (B : Bi mg) : FnOk P w K mg base CX0 2 f fd ["table", "value"] (sp_item K) := by
  have GW : FnOk P w K mg base CX0 1 fW fdW ["value"] sp_whole := ok_whole DW.F B
  refine F.ok sc_is_item (fun vs H Q E h => ?_) (fun cdv A outer s H vs Q E hr h => ?_)
  · obtain ⟨tv, t, i, rfl, _⟩ := h
    rfl
  · obtain ⟨tv, t, i, rfl, ⟨tp, rs, rfl, htp, hR⟩, hi, q⟩ := h
    have hrl := hR.1
    refine ⟨_, pss_one (ps_ret (pe_and (pe_cl DW GW hr (pa_cons (pv 1) pa_nil)) (pe_one (pe_chain op_le op_lt pe_int (pv 1) (pe_len B (pv 0)))))), ?_⟩
    refine ⟨.int (i : Int), rfl, (i : Int), rfl, true, rfl, ⟨.int (i : Int), rfl, _, _, rfl, rfl, true, ?_, ⟨.ref tp, rfl, tp, rs, rfl, .inr htp, _, _, rfl, rfl, ?_⟩⟩⟩
    · show V.bl (decide ((0 : Int) ≤ (i : Int))) = V.bl true
      rw [decide_eq_true (by omega)]
    · show Q (V.bl (decide ((i : Int) < (rs.length : Int)))) H
      rw [decide_eq_true (by omega)]
      exact q
end
section
variable {P : Program} {w : World} {K : PySem.W.Frag} {mg : Str → Option Value} {base : Heap}
/-! ### the program: items in another order -/
theorem all_trO (n : Nat) : ((List.replicate n true).all id) = true := by
  rw [List.all_eq_true]
  intro x hx
  exact (List.eq_of_mem_replicate hx)
def sp_order (K : PySem.W.Frag) : Sp := fun vs H Q _ => ∃ (tv : V) (t : List (List Int)) (p : Addr) (os : List Nat), vs = [tv, .ref p] ∧ TT K H tv t ∧ t.length ≤ 20 ∧ SqT K H p (nI os) ∧ os.Perm (List.range t.length) ∧ ∀ H', Sm H H' → Q (.bl true) H'
theorem ok_order {f fI fW : Addr} {fd fdI fdW : FuncData} (F : Fun K "is_order" "is_order" s_is_order f fd) (DI : Df K mg "is_item" s_is_item fI fdI ["table", "value"]) (DW : Df K mg "is_whole" s_is_whole fW fdW ["value"]) (B : Bi mg) : FnOk P w K mg base CX0 3 f fd ["table", "value"] (sp_order K) := by
  have GI : FnOk P w K mg base CX0 2 fI fdI ["table", "value"] (sp_item K) := ok_item DI.F DW B
  refine F.ok sc_is_order (fun vs H Q E h => ?_) (fun cdv A outer s H vs Q E hr h => ?_)
  · obtain ⟨tv, t, p, os, rfl, _⟩ := h
    rfl
  · obtain ⟨tv, t, p, os, rfl, hT, h20, hp, perm, q⟩ := h
    have nd := sc_is_order.nd
    refine ⟨_, pss_cons (ps_if (PW.pt (pw_or (pt_not (pt_val (pe_callB call_isi (by rfl) B.isinstance (by decide +kernel) (pa_cons (pv 1) (pa_cons (pe_bltn (by rfl) B.tuple (by decide +kernel) (v := .ty "tuple") rfl) pa_nil))))) (pw_or1 (pt_cmpR op_ne (pe_len B (pv 1)) (pe_len B (pv 0)) (nomark _))))) pss_never pss_nil)
      (pss_one (ps_ret (pe_and (pe_callB (cr_all rfl) (by rfl) B.all (by decide +kernel) (pa_cons
          (pe_lc (own := [("item", 2)]) (g := gName 2) (tt := tYes) rfl nd (pi_tup (pv 1)) (blkOk_by (N := N_is_order) (sc := defScope s_is_order) (by decide +kernel))
            (fun _ _ _ _ _ => pg_name (i := 2) nd rfl (.inl rfl)) (fun _ _ _ _ _ => pts_nil) (fun _ _ _ _ _ => pe_cl DI GI hr (pa_cons (pv 0) (pa_cons (pv 2) pa_nil)))) pa_nil))
        (pe_one (pe_cmpR op_eq (pe_lenSetT (by rfl) B.len (by rfl) B.set (pv 1)) (pe_len B (pv 1)) (nomark _)))))), ?_⟩
    have ol := perm.length_eq
    rw [List.length_range] at ol
    obtain ⟨tp, rs, rfl, htp, hR⟩ := id hT
    have hrl := hR.1
    have enl : (nI os).length = os.length := List.length_map ..
    refine ⟨.ref p, rfl, .ref p, .ty "tuple", .type "tuple", _, true, rfl, .ty _, ty_tup hp, kit_ty (show kitB "tuple" "tuple" = some true by decide +kernel), true, rfl, ?_⟩
    show _
    refine ⟨.ref p, rfl, p, _, rfl, .inr hp, .ref tp, rfl, tp, rs, rfl, .inr htp, rfl, false, ?_, ?_⟩
    · rw [enl, show os.length = rs.length by omega, decide_eq_true rfl]
      rfl
    show _
    refine ⟨.ref p, rfl, p, rfl, ⟨_, hp⟩, fun D hD => lc_tup (xs := nI os) (fun j Hy => Hy D = some (.lst ((List.replicate j true).map V.bl)) ∧ Sm H Hy) ⟨upd_same, Sm.new hD⟩ (fun j Hy _ hP => hP.2.sqT hp) (fun j x Hy hx hP => ?_) (fun Hy hP => ?_)⟩
    · obtain ⟨g1, g2⟩ := hP
      obtain ⟨z, hz, rfl⟩ := nIat hx
      have hj : j < os.length := (List.getElem?_eq_some_iff.mp hz).1
      have hzt : z < t.length := List.mem_range.mp (perm.mem_iff.mp (List.mem_of_getElem? hz))
      refine ⟨rfl, .ref tp, rfl, .int (z : Int), rfl, .ref tp, t, z, rfl, hT.same g2, hzt, _, g1, ?_, ?_, ?_⟩
      · rw [List.length_map, List.length_replicate]
        exact small1000 (by omega)
      · rw [upd_same, List.replicate_succ', List.map_append]
        rfl
      · intro c u e
        rw [upd_ne (ne_of_none e hD)]
        exact g2 c u e
    · obtain ⟨g1, g2⟩ := hP
      refine ⟨D, _, rfl, SqL.of g1, true, congrArg V.bl (all_trO _), ?_⟩
      show _
      have hp2 : SqT K Hy p ((os.map fun i : Nat => (i : Int)).map V.int) := by
        rw [List.map_map]
        exact g2.sqT hp
      have ndO : (os.map fun i : Nat => (i : Int)).Nodup := List.pairwise_map.mpr (List.Pairwise.imp (fun h e => h (by omega)) (perm.nodup_iff.mpr List.nodup_range))
      refine ⟨.ref p, rfl, p, _, rfl, hp2, ndO, by rw [List.length_map]; omega, .ref p, rfl, p, _, rfl, .inr (g2.sqT hp), rfl, ?_⟩
      rw [List.length_map, enl, decide_eq_true rfl]
      exact q _ g2
def sp_rela (K : PySem.W.Frag) : Sp := fun vs H Q _ => ∃ (tv : V) (t : List (List Int)) (p : Addr) (os : List Nat), vs = [tv, .ref p] ∧ TT K H tv t ∧ WT t ∧ t.length ≤ 20 ∧ SqT K H p (nI os) ∧ os.Perm (List.range t.length) ∧ ∀ (H' : Hp) (v : V), Sm H H' → TT K H' v (pick t os) → Q v H'
theorem ok_rela {f fO fK fI fW fL : Addr} {fd fdO fdK fdI fdW fdL : FuncData} (F : Fun K "relabeled" "relabeled" s_relabeled f fd) (DO : Df K mg "is_order" s_is_order fO fdO ["table", "value"]) (DK : Df K mg "picked" s_picked fK fdK ["table", "items"]) (DI : Df K mg "is_item" s_is_item fI fdI ["table", "value"]) (DW : Df K mg "is_whole" s_is_whole fW fdW ["value"])
    (DL : Df K mg "level_between" s_level_between fL fdL ["table", "one", "other"]) (B : Bi mg) : FnOk P w K mg base CX0 4 f fd ["table", "order"] (sp_rela K) := by
  have GO : FnOk P w K mg base CX0 3 fO fdO ["table", "value"] (sp_order K) := ok_order DO.F DI DW B
  have GK : FnOk P w K mg base CX0 3 fK fdK ["table", "items"] (sp_pickT K) := ok_pickT DK.F DL B
  refine F.ok sc_relabeled (fun vs H Q E h => ?_) (fun cdv A outer s H vs Q E hr h => ?_)
  · obtain ⟨tv, t, p, os, rfl, _⟩ := h
    rfl
  · obtain ⟨tv, t, p, os, rfl, hT, hW, h20, hp, perm, q⟩ := h
    refine ⟨_, pss_cons (ps_if (pt_not (pt_val (pe_cl DO GO hr (pa_cons (pv 0) (pa_cons (pv 1) pa_nil))))) pss_never pss_nil) (pss_one (ps_ret (pe_cl DK GK hr (pa_cons (pv 0) (pa_cons (pv 1) pa_nil))))), ?_⟩
    have ol := perm.length_eq
    rw [List.length_range] at ol
    refine ⟨tv, rfl, .ref p, rfl, tv, t, p, os, rfl, hT, h20, hp, perm, fun H1 s1 => ⟨true, rfl, ?_⟩⟩
    show _
    exact ⟨tv, rfl, .ref p, rfl, tv, t, p, os, rfl, hT.same s1, hW, s1.sqT hp, fun x hx => List.mem_range.mp (perm.mem_iff.mp hx), by omega, fun H2 v s2 hv => q H2 v (s1.trans s2) hv⟩
end
section
variable {P : Program} {w : World} {K : PySem.W.Frag} {mg : Str → Option Value} {base : Heap}
/-- a tree's text tells the tree -/
theorem ctx_inj80 {d e : PyData} (hd : TkOk d) (he : TkOk e) (h : ctx d = ctx e) : d = e := by
  have a := TL.spl_join (s := 32) (S := []) hd.ne fun p hp => (hd.all p hp).free
  have b := TL.spl_join (s := 32) (S := []) he.ne fun p hp => (he.all p hp).free
  rw [← hd.txt, h, he.txt, b] at a
  have r1 := hd.run [] []
  have r2 := he.run [] []
  rw [← a, r2] at r1
  have := Option.some.inj r1
  simpa using this.symm
end
section
variable {P : Program} {w : World} {K : PySem.W.Frag} {mg : Str → Option Value} {base : Heap}
/-! ### the law (the board's part is a premise here) -/
theorem TrD80.uniq {t : List (List Int)} (hU : Ultra t) {S : List Nat} {d : PyData} (h : TrD80 t S d) : ∀ {e : PyData}, (∀ x ∈ S, x < t.length) → TrD80 t S e → d = e := by
  induction h with
  | leaf i =>
    intro e _ he
    generalize hz : [i] = z at he
    cases he with
    | leaf j => cases hz; rfl
    | node _ _ ok =>
      have := ok.two
      rw [← hz] at this
      simp at this
  | node hl hk ok ih =>
    rename_i S l ds Ss
    intro e hS he
    cases he with
    | leaf j =>
      have := ok.two
      simp at this
    | node hl' hk' ok' =>
      have l0 : 0 < l := by
        have := ok.lv
        unfold LvOk at this
        omega
      obtain ⟨rfl, rfl⟩ := can_one hU hS l0 ok.can ok'.can
      congr 2
      refine List.ext_getElem? fun k => ?_
      rename_i ds'
      by_cases hk0 : k < ds.length
      · obtain ⟨d, hd⟩ : ∃ d, ds[k]? = some d := ⟨_, List.getElem?_eq_getElem hk0⟩
        obtain ⟨d', hd'⟩ : ∃ d', ds'[k]? = some d' := ⟨_, List.getElem?_eq_getElem (by omega)⟩
        obtain ⟨P, hP⟩ : ∃ P, Ss[k]? = some P := ⟨_, List.getElem?_eq_getElem (by omega)⟩
        rw [hd, hd', ih k d P hd hP (fun x hx => hS x ((ok.mem x).mpr ⟨P, List.mem_of_getElem? hP, hx⟩)) (hk' k d' P hd' hP)]
      · rw [List.getElem?_eq_none (by omega), List.getElem?_eq_none (by omega)]
/-- an item of the law's list -/
def Itm80 (K : PySem.W.Frag) (H : Hp) (v : V) (t : List (List Int)) : Prop := ∃ p s uv d, v = .ref p ∧ SqT K H p [.str s, uv] ∧ TT K H uv (jtab t) ∧ WT t ∧ 1 ≤ t.length ∧ t.length ≤ 12 ∧ TL.tl s = ctx d ∧ TkOk d ∧ TrD80 (jtab t) (List.range t.length) d
theorem Itm80.kp {H H' : Hp} {dd c r : Addr} {n : Nat} {v : V} {t : List (List Int)} (D : Dr H dd c r n) (e : Kp dd r H H') (h : Itm80 K H v t) : Itm80 K H' v t := by
  obtain ⟨p, s, uv, d, h1, h2, h3, h4⟩ := h
  exact ⟨p, s, uv, d, h1, D.kpT e h2, h3.kp D e, h4⟩
theorem Itm80.same {H H' : Hp} {v : V} {t : List (List Int)} (e : Sm H H') (h : Itm80 K H v t) : Itm80 K H' v t := by
  obtain ⟨p, s, uv, d, h1, h2, h3, h4⟩ := h
  exact ⟨p, s, uv, d, h1, e.sqT h2, h3.same e, h4⟩
theorem items_eq80 {t u : List (List Int)} {s s' : Str} {d e : PyData} (hW : WT t) (hW' : WT u) (hs : TL.tl s = ctx d) (hs' : TL.tl s' = ctx e) (kd : TkOk d) (ke : TkOk e) (td : TrD80 (jtab t) (List.range t.length) d) (te : TrD80 (jtab u) (List.range u.length) e) : decide (V.str s = V.str s') = decide (jtab t = jtab u) := by
  refine decide_eq_decide.mpr ⟨fun z => ?_, fun z => ?_⟩
  · have z := V.str.inj z
    subst z
    obtain rfl := ctx_inj80 kd ke (hs.symm.trans hs')
    obtain ⟨m, l⟩ := td.det te
    have hl : t.length = u.length := by
      rcases Nat.lt_trichotomy t.length u.length with g | g | g
      · have := (m t.length).mpr (List.mem_range.mpr g)
        exact absurd (List.mem_range.mp this) (Nat.lt_irrefl _)
      · exact g
      · have := (m u.length).mp (List.mem_range.mpr g)
        exact absurd (List.mem_range.mp this) (Nat.lt_irrefl _)
    refine tab_ext (jtab_wt hW) (jtab_wt hW') (by rw [jtab_len, jtab_len]; exact hl) fun i j hj hi => ?_
    rw [jtab_len] at hi
    exact l i j (List.mem_range.mpr hi) (List.mem_range.mpr (by omega)) (by omega)
  · have hl : t.length = u.length := by rw [← jtab_len t, z, jtab_len]
    rw [← z, ← hl] at te
    obtain rfl := td.uniq (jtab_ultra hW) (fun x hx => by rw [jtab_len]; exact List.mem_range.mp hx) te
    exact congrArg V.str (TL.ext_tl (hs.trans hs'.symm))
end
section
variable {P : Program} {w : World} {K : PySem.W.Frag} {mg : Str → Option Value} {base : Heap}
/-! ### the beginning of a drawing -/
def sp_draws (K : PySem.W.Frag) : Sp := fun vs H Q _ => ∃ (a : Addr) (ns : List Int), vs = [.ref a] ∧ SqL K H a (ns.map V.int) ∧ ns.length ≤ 63 ∧ ∀ (H' : Hp) (d c r : Addr), Sm H H' → Dr H' d c r 0 → H d = none → H c = none → H r = none → Q (.ref d) H'
theorem ok_draws {f : Addr} {fd : FuncData} {k : Nat} (F : Fun K "_law_draws" "_law_draws" s_L_draws f fd) (B : Bi mg) : FnOk P w K mg base CX0 (k + 1) f fd ["_law_script"] (sp_draws K) := by
  refine F.ok sc_L_draws (fun vs H Q E h => ?_) (fun cdv A outer s H vs Q E hr h => ?_)
  · obtain ⟨a, ns, rfl, _⟩ := h
    rfl
  · obtain ⟨a, ns, rfl, hS, h63, q⟩ := h
    have nd := sc_L_draws.nd
    refine ⟨_, pss_cons (ps_set (i := 1) nd rfl (.inl rfl) (pe_op op_cat (pe_callTy call_list_of (by rfl) B.list (by decide +kernel) (pa_cons (pe_slice sl_list (pv 0) po_none (po_some pe_int)) pa_nil))
        (pe_op op_rep (pe_lst (pa_cons pe_int pa_nil)) (pe_callTy call_int1 (by rfl) B.int (by decide +kernel) (pa_cons (pe_cmpR op_eq (pe_len B (pv 0)) pe_int (nomark _)) pa_nil)))))
      (pss_one (ps_ret (pe_lst (pa_cons (pv 1) (pa_cons pe_int (pa_cons
        (pe_lc (own := [("_law_cell", 2)]) (g := gName 2) (tt := tYes) rfl nd (pi_list (pv 1)) (blkOk_by (N := N_L_draws) (sc := defScope s_L_draws) (by decide +kernel))
          (fun _ _ _ _ _ => pg_name (i := 2) nd rfl (.inl rfl)) (fun _ _ _ _ _ => pts_nil)
          (fun _ _ _ _ _ => pe_op op_mul (pv 2) (pe_callTy call_int1 (by rfl) B.int (by decide +kernel) (pa_cons (pe_cmpR op_ge (pv 2) (pe_op op_pow pe_int pe_int) (nomark _)) pa_nil)))) pa_nil)))))), ?_⟩
    refine ⟨.ref a, rfl, 63, rfl, a, _, rfl, hS, fun p1 hp1 => ?_⟩
    have e63 : cutV (ns.map V.int) none (some 63) = ns.map V.int := by
      rw [show (63 : Int) = ((63 : Nat) : Int) from rfl, cut_to]
      exact List.take_of_length_le (by rw [List.length_map]; exact h63)
    rw [e63]
    have s1 : Sm H (upd H p1 (.lst (ns.map V.int))) := Sm.new hp1
    refine ⟨p1, _, rfl, .inl (SqL.of upd_same), fun p2 hp2 => ?_⟩
    have s2 := s1.trans (Sm.new (o := .lst (ns.map V.int)) hp2)
    refine ⟨(by show 1 ≤ sizeLine; decide), fun p3 hp3 => ?_⟩
    have s3 := s2.trans (Sm.new (o := .lst [.int 0]) hp3)
    refine ⟨.ref a, rfl, a, _, rfl, .inl (s3.sqL hS), rfl, .inr ⟨_, rfl, ?_⟩⟩
    obtain ⟨kk, ek, ekk⟩ : ∃ kk : Nat, (if decide (V.int (((ns.map V.int).length : Nat) : Int) = V.int 0) = true then (1 : Int) else 0) = (kk : Int) ∧ (kk = if ns.length = 0 then 1 else 0) := by
      by_cases z : ns.length = 0
      · exact ⟨1, by rw [List.length_map, z]; rfl, by rw [if_pos z]⟩
      · refine ⟨0, ?_, by rw [if_neg z]⟩
        rw [List.length_map, decide_eq_false (fun e => z (by have := V.int.inj e; omega))]
        rfl
    rw [ek]
    have kk1 : kk ≤ 1 := by rw [ekk]; split <;> omega
    refine ⟨p3, _, _, rfl, rfl, upd_same, by omega, by omega, ?_, fun p4 hp4 => ?_⟩
    · show 1 * ((kk : Int).toNat) ≤ sizeLine
      exact Nat.le_of_lt (small1000 (by omega))
    obtain ⟨zs, ez, lz⟩ : ∃ zs : List Int, (List.replicate (kk : Int).toNat [V.int 0]).flatten = zs.map V.int ∧ zs.length = kk := by
      match kk, kk1 with
      | 0, _ => exact ⟨[], rfl, rfl⟩
      | 1, _ => exact ⟨[0], rfl, rfl⟩
    rw [ez]
    have s4 := s3.trans (Sm.new (o := .lst (zs.map V.int)) hp4)
    have h24 : (upd (upd (upd (upd H p1 (.lst (ns.map V.int))) p2 (.lst (ns.map V.int))) p3 (.lst [.int 0])) p4 (.lst (zs.map V.int))) p2 = some (.lst (ns.map V.int)) :=
      Sm.new hp4 _ _ (Sm.new hp3 _ _ upd_same)
    refine ⟨p2, p4, _, _, rfl, rfl, h24, upd_same, ?_, fun c hc => ?_⟩
    · rw [List.length_map, List.length_map]
      exact Nat.le_of_lt (small1000 (by omega))
    rw [← List.map_append]
    obtain ⟨cells, hcells⟩ : ∃ cells, cells = ns ++ zs := ⟨_, rfl⟩
    rw [← hcells]
    have lc : 0 < cells.length ∧ cells.length ≤ 64 := by
      rw [hcells, List.length_append, lz, ekk]
      split <;> omega
    have cH : H c = none := s4.free hc
    have s5 := s4.trans (Sm.new (o := .lst (cells.map V.int)) hc)
    have c5 : (upd (upd (upd (upd (upd H p1 (.lst (ns.map V.int))) p2 (.lst (ns.map V.int))) p3 (.lst [.int 0])) p4 (.lst (zs.map V.int))) c (.lst (cells.map V.int))) c = some (.lst (cells.map V.int)) := upd_same
    generalize upd (upd (upd (upd (upd H p1 (.lst (ns.map V.int))) p2 (.lst (ns.map V.int))) p3 (.lst [.int 0])) p4 (.lst (zs.map V.int))) c (.lst (cells.map V.int)) = H5 at s5 c5
    -- the three
    refine ⟨.ref c, rfl, .ref c, rfl, c, rfl, ⟨_, SqL.of c5⟩, fun r hr0 => lc_list (xs := cells.map V.int) (fun i Hx => ∃ rs : List Int, Hx r = some (.lst (rs.map V.int)) ∧ rs.length = i ∧ (∀ x ∈ rs, 0 ≤ x) ∧ Sm H5 Hx) ⟨[], upd_same, rfl, fun x hx => by simp at hx, Sm.new hr0⟩ (fun i Hx hi hP => ?_) (fun i v Hx hv hP => ?_) (fun Hx hP => ?_)⟩
    · obtain ⟨_, _, _, _, h4⟩ := hP
      exact SqL.of (h4 _ _ c5)
    · obtain ⟨rs, h1, h2, h3, h4⟩ := hP
      have hi : i < cells.length := by
        have := (List.getElem?_eq_some_iff.mp hv).1
        rwa [List.length_map] at this
      obtain ⟨x, rfl⟩ : ∃ x : Int, v = .int x := by
        rw [List.getElem?_map, List.getElem?_eq_getElem hi] at hv
        exact ⟨_, (Option.some.inj hv).symm⟩
      refine ⟨rfl, .int x, rfl, .int x, rfl, _, _, rfl, rfl, ⟨by decide, by decide, by decide⟩, _, _, rfl, rfl, .inr ⟨_, rfl, ?_⟩⟩
      obtain ⟨b, hb, hb2⟩ : ∃ b : Int, (if decide ((10 : Int) ^ (18 : Int).toNat ≤ x) = true then (1 : Int) else 0) = b ∧ ((b = 1 ∧ (10 : Int) ^ (18 : Int).toNat ≤ x) ∨ b = 0) := by
        by_cases z : (10 : Int) ^ (18 : Int).toNat ≤ x
        · exact ⟨1, by rw [decide_eq_true z]; rfl, .inl ⟨rfl, z⟩⟩
        · exact ⟨0, by rw [decide_eq_false z]; rfl, .inr rfl⟩
      rw [hb]
      refine ⟨_, _, rfl, rfl, .inr ⟨?_, ?_⟩, _, h1, by rw [List.length_map]; exact small1000 (by omega), rs ++ [x * b], ?_, by rw [List.length_append, h2]; rfl, ?_, ?_⟩
      · rcases hb2 with ⟨z, _⟩ | z <;> rw [z] <;> decide
      · rcases hb2 with ⟨z, _⟩ | z <;> rw [z] <;> decide
      · rw [upd_same, List.map_append]; rfl
      · intro y hy
        rcases List.mem_append.mp hy with hy | hy
        · exact h3 y hy
        · rw [List.mem_singleton.mp hy]
          rcases hb2 with ⟨z, zx⟩ | z
          · rw [z, Int.mul_one]
            exact Int.le_trans (by decide) zx
          · rw [z, Int.mul_zero]
            exact Int.le_refl 0
      · intro e o he
        rw [upd_ne (ne_of_none he hr0)]
        exact h4 e o he
    · obtain ⟨rs, h1, h2, h3, h4⟩ := hP
      rw [List.length_map] at h2
      refine ⟨(by show 3 ≤ sizeLine; decide), fun d hd0 => ?_⟩
      have c6 := h4 _ _ c5
      have s6 := s5.trans h4
      refine q _ d c r (s6.trans (Sm.new hd0)) ⟨⟨cells, rs, 0, upd_same, Sm.new hd0 _ _ c6, Sm.new hd0 _ _ h1, h2.symm, lc.1, lc.2, Nat.le_refl _, h3⟩, (ne_of_none c6 hd0).symm, (ne_of_none h1 hd0).symm, ne_of_none c5 hr0⟩ (s6.free hd0) cH (s5.free hr0)
end
section
variable {P : Program} {w : World} {K : PySem.W.Frag} {mg : Str → Option Value} {base : Heap}
def Tb80 (K : PySem.W.Frag) (H : Hp) (v : V) (t : List (List Int)) : Prop := TT K H v t ∧ WT t ∧ 1 ≤ t.length ∧ t.length ≤ 12
theorem tt_upd80 {H : Hp} {p : Addr} {ys zs : List V} (hp : H p = some (.lst ys)) {v : V} {t : List (List Int)} (h : TT K H v t) : TT K (L2.upd H p (.lst zs)) v t := by
  obtain ⟨q, vs, rfl, hs, hR⟩ := h
  exact ⟨q, vs, rfl, sqT_upd hp hs, hR.upd hp⟩
structure LawDefs80 (K : PySem.W.Frag) (mg : Str → Option Value) : Prop where
  D : DrawDefs K mg
  R : TreeDefs K mg
  N : NearDefs K mg
  gD : ∃ t, mg "DIGITS" = some (.int 13 t)
  draws : ∃ f fd, Df K mg "_law_draws" s_L_draws f fd ["_law_script"]
  table : ∃ f fd, Df K mg "_law_table" s_L_table f fd ["_law_drawn", "_law_count_here"]
  right : ∃ f fd, Df K mg "_law_tree_right" s_L_tree_right f fd ["_law_table_here"]
  near : ∃ f fd, Df K mg "nearest_table" s_nearest_table f fd ["table"]
  within : ∃ f fd, Df K mg "nested_within" s_nested_within f fd ["table", "most"]
  rela : ∃ f fd, Df K mg "relabeled" s_relabeled f fd ["table", "order"]
  isord : ∃ f fd, Df K mg "is_order" s_is_order f fd ["table", "value"]
  picked : ∃ f fd, Df K mg "picked" s_picked f fd ["table", "items"]
  isitem : ∃ f fd, Df K mg "is_item" s_is_item f fd ["table", "value"]
  lb : ∃ f fd, Df K mg "level_between" s_level_between f fd ["table", "one", "other"]
  joined : ∃ f fd, Df K mg "joined" s_joined f fd ["numbers"]
  ftab : ∃ f fd, Df K mg "format_table" s_format_table f fd ["table"]
  cnt : ∃ f fd, Df K mg "count_in" s_count_in f fd ["line"]
  rowin : ∃ f fd, Df K mg "row_in" s_row_in f fd ["line", "size"]
  number : ∃ f fd, Df K mg "number_of" s_number_of f fd ["word"]
  plines : ∃ f fd, Df K mg "parse_lines" s_parse_lines f fd ["lines"]
  ptab : ∃ f fd, Df K mg "parse_table" s_parse_table f fd ["value"]
def sp_law (K : PySem.W.Frag) : Sp := fun vs H Q _ => ∃ (a : Addr) (ns : List Int), vs = [.ref a] ∧ SqL K H a (ns.map V.int) ∧ ns.length ≤ 63 ∧ ∀ H', Q (.bl true) H'
set_option maxHeartbeats 16000000 in
theorem ok_law80 {f fB : Addr} {fd fdB : FuncData} (F : Fun K "law" "law" s_law f fd) (T : LawDefs80 K mg) (D_L_board_right : Df K mg "_law_board_right" s_L_board_right fB fdB ["_law_table_here"]) (G_L_board_right : FnOk P w K mg base CX0 17 fB fdB ["_law_table_here"] (sp_tright80 K)) : FnOk P w K mg base CX0 18 f fd ["_law_script"] (sp_law K) := by
  have B := T.D.B
  obtain ⟨fN, fdN, D_L_next⟩ := T.D.next
  obtain ⟨fC, fdC, D_L_count⟩ := T.D.count
  obtain ⟨f1, fd1, D_L_draws⟩ := T.draws
  obtain ⟨f2, fd2, D_L_table⟩ := T.table
  obtain ⟨f3, fd3, D_L_tree_right⟩ := T.right
  obtain ⟨f4, fd4, D_nearest_table⟩ := T.near
  obtain ⟨f5, fd5, D_nested_within⟩ := T.within
  obtain ⟨f6, fd6, D_relabeled⟩ := T.rela
  obtain ⟨f7, fd7, D7⟩ := T.isord
  obtain ⟨f8, fd8, D8⟩ := T.picked
  obtain ⟨f9, fd9, D9⟩ := T.isitem
  obtain ⟨f10, fd10, D10⟩ := T.lb
  obtain ⟨f11, fd11, D11⟩ := T.joined
  obtain ⟨f12, fd12, D_format_table⟩ := T.ftab
  obtain ⟨f13, fd13, D13⟩ := T.cnt
  obtain ⟨f14, fd14, D14⟩ := T.rowin
  obtain ⟨f15, fd15, D15⟩ := T.number
  obtain ⟨f16, fd16, D16⟩ := T.plines
  obtain ⟨f17, fd17, D_parse_table⟩ := T.ptab
  obtain ⟨f18, fd18, D_tree_of⟩ := T.R.treeof
  obtain ⟨f19, fd19, D_nested_below⟩ := T.R.below
  obtain ⟨f20, fd20, D_format_tree⟩ := T.R.ftree
  obtain ⟨f21, fd21, D_L_equal⟩ := T.R.equal
  obtain ⟨fJ, fdJ, DJ⟩ := T.R.joins
  obtain ⟨fS, fdS, DS⟩ := T.R.steps
  obtain ⟨fW, fdW, DW⟩ := T.R.whole
  obtain ⟨fL, fdL, DL⟩ := T.R.level
  have G_L_next : FnOk P w K mg base CX0 17 fN fdN ["_law_drawn", "_law_many"] sp_next := (ok_next (k := 0) D_L_next.F B).mono (by decide)
  have G_L_count : FnOk P w K mg base CX0 17 fC fdC ["_law_drawn", "_law_most"] sp_count := (ok_count D_L_count.F D_L_next B).mono (by decide)
  have G_L_draws : FnOk P w K mg base CX0 17 f1 fd1 ["_law_script"] (sp_draws K) := ok_draws D_L_draws.F B
  have G_L_table : FnOk P w K mg base CX0 17 f2 fd2 ["_law_drawn", "_law_count_here"] (sp_table K) := (ok_table D_L_table.F T.D).mono (by decide)
  have G_L_tree_right : FnOk P w K mg base CX0 17 f3 fd3 ["_law_table_here"] (sp_tright80 K) := ok_tright80 D_L_tree_right.F T.R
  have G_nearest_table : FnOk P w K mg base CX0 17 f4 fd4 ["table"] (sp_nearest K) := (ok_nearest D_nearest_table.F T.N).mono (by decide)
  have G_nested_within : FnOk P w K mg base CX0 17 f5 fd5 ["table", "most"] (sp_nwithin K) := (ok_nwithin D_nested_within.F T.N).mono (by decide)
  have G_relabeled : FnOk P w K mg base CX0 17 f6 fd6 ["table", "order"] (sp_rela K) := (ok_rela D_relabeled.F D7 D8 D9 DW D10 B).mono (by decide)
  have G_format_table : FnOk P w K mg base CX0 17 f12 fd12 ["table"] (sp_ftab78 K) := ok_ftab78 (k := 15) D_format_table.F D11 B
  have G_parse_table : FnOk P w K mg base CX0 17 f17 fd17 ["value"] (sp_ptab78 K) := (ok_ptab78 D_parse_table.F D16 D13 D14 D15 DL DW T.gD T.R.gI T.R.gL B).mono (by decide)
  have G_tree_of : FnOk P w K mg base CX0 17 f18 fd18 ["table"] (sp_treeof K) := (ok_treeof D_tree_of.F DJ DS T.R.G).mono (by decide)
  have G_nested_below : FnOk P w K mg base CX0 17 f19 fd19 ["table"] (sp_below K) := (ok_below D_nested_below.F T.R.G.G).mono (by decide)
  have G_format_tree : FnOk P w K mg base CX0 17 f20 fd20 ["tree"] (sp_tx78 K 11) := (ok_ftree78 D_format_tree B 11).mono (by decide)
  have G_L_equal : FnOk P w K mg base CX0 17 f21 fd21 ["_law_one_here", "_law_other"] (sp_equal K 15) := (ok_equal D_L_equal B 15).mono (by decide)
  refine F.ok sc_law (fun vs H Q E h => ?_) (fun cdv A outer s H vs Q E hr h => ?_)
  · obtain ⟨a, ns, rfl, _⟩ := h
    rfl
  · obtain ⟨a, ns, rfl, hS, h63, q⟩ := h
    have nd := sc_law.nd
    refine ⟨_, (pss_cons (ps_set (i := 1) nd rfl (.inl rfl) (pe_cl D_L_draws G_L_draws hr (pa_cons (pv 0) pa_nil)))
      (pss_cons (ps_set (i := 2) nd rfl (.inl rfl) (pe_lst pa_nil))
      (pss_cons (ps_for PassesOwn.never rfl (pi_range1 rfl B.range (pa_cons pe_int pa_nil)) (pg_name (i := 3) nd rfl (.inl rfl))
      (pss_cons (ps_set (i := 4) nd rfl (.inl rfl) (pe_cl D_L_table G_L_table hr (pa_cons (pv 1) (pa_cons (pe_cl D_L_count G_L_count hr (pa_cons (pv 1) (pa_cons pe_int pa_nil))) pa_nil))))
      (pss_cons (ps_set (i := 5) nd rfl (.inl rfl) (pe_lst (pa_cons (pv 4) (pa_cons (pe_cl D_nested_below G_nested_below hr (pa_cons (pv 4) pa_nil)) (pa_cons (pe_cl D_nearest_table G_nearest_table hr (pa_cons (pv 4) pa_nil)) (pa_cons (pe_cl D_relabeled G_relabeled hr (pa_cons (pv 4) (pa_cons (pe_revT (pe_tupRg rfl (by rfl) B.tuple (prg_1 (by rfl) B.range (pe_len B (pv 4))))) pa_nil))) pa_nil))))))
      (pss_cons (ps_set (i := 6) nd rfl (.inl rfl) (pe_cl D_nested_within G_nested_within hr (pa_cons (pv 4) (pa_cons (pe_cl D_L_next G_L_next hr (pa_cons (pv 1) (pa_cons pe_int pa_nil))) pa_nil))))
      (pss_cons (ps_set (i := 5) nd rfl (.inl rfl) (pe_op op_cat (pv 5) (pe_op op_rep (pe_lst (pa_cons (pv 6) pa_nil)) (pe_callTy call_int1 (by rfl) B.int (by decide +kernel) (pa_cons (pe_cmpR op_notN (pv 6) pe_non (nomark _)) pa_nil)))))
      (pss_cons (ps_if (pt_cmpR (op_neNilL hr.units) (pe_lc (own := [("_law_one_here", 9)]) (g := gName 9) (tt := tNot (tB (tCall (sp_equal K 15) [] E0 (tCons (tCall (sp_ptab78 K) [] E0 (tCons (tCall (sp_ftab78 K) [] E0 (tCons (tVar 9) tNil)) tNil)) (tCons (tVar 9) tNil))))) (te := tVar 9) rfl nd (pi_list (pv 5)) (blkOk_by (N := N_law) (sc := defScope s_law) (by decide +kernel))
            (fun _ _ _ _ _ => pg_name (i := 9) nd rfl (.inl rfl)) (fun _ _ _ _ _ => pts_one (pt_not (pt_val (pe_cl D_L_equal G_L_equal hr (pa_cons (pe_cl D_parse_table G_parse_table hr (pa_cons (pe_cl D_format_table G_format_table hr (pa_cons (pv 9) pa_nil)) pa_nil)) (pa_cons (pv 9) pa_nil)))))) (fun _ _ _ _ _ => (pv 9))) (pe_lst pa_nil) (nomark _))
      (pss_one (ps_ret pe_bl))
      pss_nil)
      (pss_cons (ps_if (PW.pt (pw_or (pt_not (pt_val (pe_cl D_L_tree_right G_L_tree_right hr (pa_cons (pv 4) pa_nil)))) (pw_or1 (pt_not (pt_val (pe_cl D_L_board_right G_L_board_right hr (pa_cons (pv 4) pa_nil)))))))
      (pss_one (ps_ret pe_bl))
      pss_nil)
      (pss_one (ps_set (i := 2) nd rfl (.inl rfl) (pe_op op_cat (pv 2) (pe_lc (own := [("_law_one_here", 9)]) (g := gName 9) (tt := tYes) (te := tTup (tCons (tCall (sp_tx78 K 11) [] E0 (tCons (tCall (sp_treeof K) [] E0 (tCons (tVar 9) tNil)) tNil)) (tCons (tCall (sp_below K) [] E0 (tCons (tVar 9) tNil)) tNil))) rfl nd (pi_list (pe_slice sl_list (pv 5) po_none (po_some pe_int))) (blkOk_by (N := N_law) (sc := defScope s_law) (by decide +kernel))
            (fun _ _ _ _ _ => pg_name (i := 9) nd rfl (.inl rfl)) (fun _ _ _ _ _ => pts_nil) (fun _ _ _ _ _ => (pe_tup (pa_cons (pe_cl D_format_tree G_format_tree hr (pa_cons (pe_cl D_tree_of G_tree_of hr (pa_cons (pv 9) pa_nil)) pa_nil)) (pa_cons (pe_cl D_nested_below G_nested_below hr (pa_cons (pv 9) pa_nil)) pa_nil)))))))))))))))
      (pss_cons (ps_for PassesOwn.never rfl (pi_list (pv 2)) (pg_tup rfl (pgs_cons (pg_name (i := 7) nd rfl (.inr rfl)) (pgs_cons (pg_name (i := 8) nd rfl (.inr rfl)) pgs_nil)))
      (pss_one (ps_if (pt_cmpR (op_neNilL hr.units) (pe_lc (own := [("_law_others", 10), ("_law_lower", 11)]) (g := gTup K 2 (gCons (gName 10) (gCons (gName 11) gNil))) (tt := tTest (tOp (fun x y H Q => scal x y = true ∧ Q (.bl (!decide (x = y))) H) (tOp (fun x y H Q => scal x y = true ∧ Q (.bl (decide (x = y))) H) (tVar 7) (tVar 10)) (tOp (rEqD K) (tVar 8) (tVar 11)))) (te := tC (.int 1)) rfl nd (pi_list (pv 2)) (blkOk_by (N := N_law) (sc := defScope s_law) (by decide +kernel))
            (fun _ _ _ _ _ => pg_tup rfl (pgs_cons (pg_name (i := 10) nd rfl (.inl rfl)) (pgs_cons (pg_name (i := 11) nd rfl (.inl rfl)) pgs_nil))) (fun _ _ _ _ _ => pts_one (pt_cmpR op_ne (pe_cmpR op_eq (pv 7) (pv 10) (nomark _)) (pe_cmpR (op_eqD hr.units) (pv 8) (pv 11) (nomark _)) (nomark _))) (fun _ _ _ _ _ => pe_int)) (pe_lst pa_nil) (nomark _))
      (pss_one (ps_ret pe_bl))
      pss_nil)))
      (pss_one (ps_ret pe_bl)))))), ?_⟩
    refine ⟨.ref a, rfl, a, ns, rfl, hS, h63, fun H1 d c r s1 Dr1 _ _ _ => ?_⟩
    refine nx_mk ?_
    refine ⟨Nat.zero_le _, fun so hso => ?_⟩
    have nso := Dr1.ne hso
    have D2 := Dr1.new (o := .lst []) hso
    have hso2 : (upd H1 so (.lst [])) so = some (.lst []) := upd_same
    generalize upd H1 so (.lst []) = H2 at D2 hso2
    refine nx_mk ?_
    refine ⟨5, rfl, by decide, by decide, for_range (n := 5) (fun i σ Hx => ∃ x3 x4 x5 x6 so vs ts, σ = [some (.ref a), some (.ref d), some (.ref so), x3, x4, x5, x6, none, none, none, none, none] ∧ Hx so = some (.lst vs) ∧ so ≠ d ∧ so ≠ r ∧ Als (Itm80 K Hx) vs ts ∧ vs.length ≤ 3 * i ∧ Dr Hx d c r (1000 * i)) ⟨none, none, none, none, so, [], [], rfl, hso2, nso.1, nso.2.2, Als.nil, Nat.le_refl _, D2⟩ (fun i σ Hx hi hI => ?_) (fun σ Hx hI => ?_)⟩
    · obtain ⟨x3, x4, x5, x6, so, vs, ts, rfl, hs, n1, n2, hA, vl, hD⟩ := hI
      rw [Int.zero_add]
      show _
      refine ⟨.ref d, rfl, .ref d, rfl, d, c, r, _, 12, rfl, hD, by omega, by decide, by decide, fun H3 cnt l3 m3 D3 kp3 => ?_⟩
      refine ⟨d, c, r, _, cnt, rfl, D3, by omega, by omega, by omega, fun H4 tv t hT hW htl D4 kp4 => ?_⟩
      have h1 : 1 ≤ t.length := by omega
      have h12 : t.length ≤ 12 := by omega
      have jW := jtab_wt hW
      have jl := jtab_len t
      have hx4 : Kp d r Hx H4 := kp3.trans kp4
      refine nx_mk ?_
      -- the tables of this turn
      refine ⟨tv, rfl, tv, rfl, tv, t, rfl, hT, hW, by omega, fun H5 bv s5 hB => ?_⟩
      refine ⟨tv, rfl, tv, t, rfl, hT.same s5, hW, h1, by omega, fun H6 nv g m s6 hg hm hN => ?_⟩
      have s46 := s5.trans s6
      obtain ⟨tp, rs, rfl, htp, hR⟩ := id hT
      have hrl := hR.1
      refine ⟨.ref tp, rfl, .ref tp, rfl, tp, rs, rfl, .inr (s46.sqT htp), _, rfl, RgOk.of_le (by decide) (by omega) (by decide) (by omega), fun q0 hq0 => ?_⟩
      have s7 := Sm.new (o := .tup (rgV 0 (rs.length : Int))) hq0
      refine ⟨q0, _, rfl, SqT.of upd_same, fun q1 hq1 => ?_⟩
      have s8 := Sm.new (o := .tup (rgV 0 (rs.length : Int)).reverse) hq1
      have er : (rgV 0 (rs.length : Int)).reverse = nI (List.range t.length).reverse := by
        rw [hrl]
        unfold rgV nI
        rw [show ((t.length : Int) - 0).toNat = t.length by omega, List.map_reverse]
        congr 1
        refine List.map_congr_left fun i _ => ?_
        rw [Int.zero_add]
      have hq11 : SqT K (upd (upd H6 q0 (.tup (rgV 0 (rs.length : Int)))) q1 (.tup (rgV 0 (rs.length : Int)).reverse)) q1 (nI (List.range t.length).reverse) := by
        rw [← er]
        exact SqT.of upd_same
      have s48 := s46.trans (s7.trans s8)
      have s68 := s7.trans s8
      generalize upd (upd H6 q0 (.tup (rgV 0 (rs.length : Int)))) q1 (.tup (rgV 0 (rs.length : Int)).reverse) = H8 at hq11 s48 s68
      refine ⟨.ref tp, t, q1, (List.range t.length).reverse, rfl, hT.same s48, hW, by omega, hq11, List.reverse_perm _, fun H9 rv s9 hRv => ?_⟩
      have s49 := s48.trans s9
      have nW : WT (liftT (jtab t) ((g + 1) / 2) m) := liftT_wt jW (by have := hg.nn; omega) (by rw [jl]; exact (hm.bd hW).1) (hm.bd hW).2
      have nl : (liftT (jtab t) ((g + 1) / 2) m).length = t.length := by rw [liftT_len, jl]
      have pW : WT (pick t (List.range t.length).reverse) := pick_wt hW ((List.reverse_perm _).nodup_iff.mpr List.nodup_range) fun x hx => List.mem_range.mp (List.mem_reverse.mp hx)
      have pl : (pick t (List.range t.length).reverse).length = t.length := by rw [pick_len, List.length_reverse, List.length_range]
      refine ⟨(by show 4 ≤ sizeLine; decide), fun fo hfo => ?_⟩
      have s10 := Sm.new (o := .lst [.ref tp, bv, nv, rv]) hfo
      have D9 := D4.same s49
      have nfo := D9.ne hfo
      have Df := D9.same s10
      have hfo2 : (upd H9 fo (.lst [.ref tp, bv, nv, rv])) fo = some (.lst [.ref tp, bv, nv, rv]) := upd_same
      have s4f := s49.trans s10
      have hAf : Als (Tb80 K (upd H9 fo (.lst [.ref tp, bv, nv, rv]))) [.ref tp, bv, nv, rv] [t, jtab t, liftT (jtab t) ((g + 1) / 2) m, pick t (List.range t.length).reverse] :=
        ((((Als.one (show Tb80 K _ (.ref tp) t from ⟨hT.same s4f, hW, h1, h12⟩)).append (Als.one (show Tb80 K _ bv (jtab t) from ⟨hB.same ((s6.trans s68).trans (s9.trans s10)), jW, by omega, by omega⟩))).append (Als.one (show Tb80 K _ nv (liftT (jtab t) ((g + 1) / 2) m) from ⟨hN.same (s68.trans (s9.trans s10)), nW, by omega, by omega⟩))).append (Als.one (show Tb80 K _ rv (pick t (List.range t.length).reverse) from ⟨hRv.same s10, pW, by omega, by omega⟩)))
      have kf : Kp d r Hx (upd H9 fo (.lst [.ref tp, bv, nv, rv])) := hx4.trans s4f.kp
      have hTf := hT.same s4f
      generalize upd H9 fo (.lst [.ref tp, bv, nv, rv]) = Hf at Df hfo2 hAf kf hTf
      refine nx_mk ?_
      -- the nested table within
      refine seq_share (A := tAsg _ _) (fun σ' Hy => ∃ wv, σ' = [some (.ref a), some (.ref d), some (.ref so), some (.int (i : Int)), some (.ref tp), some (.ref fo), some wv, none, none, none, none, none] ∧ Dr Hy d c r (1000 * i + 900) ∧ Kp d r Hf Hy ∧ (wv = .non ∨ ∃ u, Tb80 K Hy wv u)) (fun σ' Hy hF => ?rest1) (fun kk => ?main1)
      case main1 =>
        refine ⟨.ref tp, rfl, .ref d, rfl, d, c, r, _, 5, rfl, Df, by omega, by decide, by decide, fun Ha k hk Da' ka => ?_⟩
        refine ⟨.ref tp, t, (k : Int), rfl, hTf.kp Df ka, hW, h1, by omega, fun Hb g' sb hg' hlt => ?_, fun Hb wv g' sb hg' hle hWv => ?_⟩
        · exact kk _ _ ⟨.non, rfl, (Da'.same sb).mono (by omega), ka.trans sb.kp, .inl rfl⟩
        · exact kk _ _ ⟨wv, rfl, (Da'.same sb).mono (by omega), ka.trans sb.kp, .inr ⟨_, hWv, liftT_wt jW (by omega) (fun _ => by decide) (Int.le_refl _), by rw [liftT_len, jl]; exact h1, by rw [liftT_len, jl]; exact h12⟩⟩
      case rest1 =>
      obtain ⟨wv, rfl, Dy, ky, hwv⟩ := hF
      have hfoy := ky _ _ hfo2 nfo.1 nfo.2.2
      have hAy : Als (Tb80 K Hy) [.ref tp, bv, nv, rv] [t, jtab t, liftT (jtab t) ((g + 1) / 2) m, pick t (List.range t.length).reverse] := Als.mono hAf fun _ _ z => ⟨z.1.kp Df ky, z.2⟩
      have hTy := hTf.kp Df ky
      refine seq_share (A := tAsg _ _) (fun σ' Hz => ∃ fo' fs us, σ' = [some (.ref a), some (.ref d), some (.ref so), some (.int (i : Int)), some (.ref tp), some (.ref fo'), some wv, none, none, none, none, none] ∧ Hz fo' = some (.lst fs) ∧ Als (Tb80 K Hz) fs us ∧ fs.length ≤ 5 ∧ Sm Hy Hz) (fun σ' Hz hF => ?rest2) (fun kk => ?main2)
      case main2 =>
        refine ⟨.ref fo, rfl, wv, rfl, (by show 1 ≤ sizeLine; decide), fun o1 ho1 => ?_⟩
        have t1 : Sm Hy (upd Hy o1 (.lst [wv])) := Sm.new ho1
        have ho11 : (upd Hy o1 (.lst [wv])) o1 = some (.lst [wv]) := upd_same
        generalize upd Hy o1 (.lst [wv]) = Hz1 at t1 ho11
        refine ⟨wv, rfl, rfl, .inr ⟨_, rfl, ?_⟩⟩
        obtain ⟨kk0, hk1, hk2, us, hk3⟩ : ∃ kk0 : Nat, (if (!decide (wv = V.non)) = true then (1 : Int) else 0) = (kk0 : Int) ∧ kk0 ≤ 1 ∧ ∃ us, Als (Tb80 K Hy) (List.replicate kk0 [wv]).flatten us := by
          rcases hwv with rfl | ⟨u, hu⟩
          · exact ⟨0, by rw [decide_eq_true rfl]; rfl, by decide, [], Als.nil⟩
          · obtain ⟨⟨p, vs', rfl, _⟩, _⟩ := id hu
            exact ⟨1, by rw [decide_eq_false (by intro z; cases z)]; rfl, by decide, [u], Als.one hu⟩
        rw [hk1]
        refine ⟨o1, (kk0 : Int), _, rfl, rfl, ho11, by omega, by omega, by rw [Int.toNat_natCast]; exact sl_small80 (n := 1 * kk0) (by omega), fun o2 ho2 => ?_⟩
        rw [Int.toNat_natCast]
        have t2 : Sm Hz1 (upd Hz1 o2 (.lst (List.replicate kk0 [wv]).flatten)) := Sm.new ho2
        have ho22 : (upd Hz1 o2 (.lst (List.replicate kk0 [wv]).flatten)) o2 = some (.lst (List.replicate kk0 [wv]).flatten) := upd_same
        have rl2 : (List.replicate kk0 [wv]).flatten.length ≤ 1 := by
          simp
          omega
        generalize upd Hz1 o2 (.lst (List.replicate kk0 [wv]).flatten) = Hz2 at t2 ho22
        refine ⟨fo, o2, _, _, rfl, rfl, t2 _ _ (t1 _ _ hfoy), ho22, sl_small80 (n := 4 + (List.replicate kk0 [wv]).flatten.length) (by omega), fun fo' hfo' => ?_⟩
        have t3 := Sm.new (o := .lst ([.ref tp, bv, nv, rv] ++ (List.replicate kk0 [wv]).flatten)) hfo'
        have t13 := t1.trans (t2.trans t3)
        exact kk _ _ ⟨fo', _, _, rfl, upd_same, (Als.mono (hAy.append hk3) fun _ _ z => ⟨z.1.same t13, z.2⟩), by rw [List.length_append]; show 4 + _ ≤ 5; omega, t13⟩
      case rest2 =>
      obtain ⟨fo', fs, us, rfl, hfz, hAz, hfl, sz⟩ := hF
      have hTz := hTy.same sz
      refine ⟨.ref fo', rfl, fo', rfl, ⟨_, SqL.of hfz⟩, fun Dl hDl => lc_list (xs := fs) (fun j Hw => Hw Dl = some (.lst []) ∧ Sm Hz Hw) ⟨upd_same, Sm.new hDl⟩ (fun j Hw _ hQ => SqL.of (hQ.2 _ _ hfz)) (fun j u Hw hu hQ => ?_) (fun Hw hQ => ?_)⟩
      · obtain ⟨w1, w2⟩ := hQ
        obtain ⟨ut, _, hTu, hWu, hu1, hu12⟩ := Als.at hAz hu
        refine ⟨rfl, u, rfl, u, ut, rfl, hTu.same w2, hWu, hu1, by omega, fun H5 y s5 hy => ?_⟩
        refine ⟨y, ut, rfl, hy, hWu, hu1, hu12, fun H6 pv6 s6 hP => ?_⟩
        refine ⟨u, rfl, pv6, u, tabD ut, rfl, hP.dp, (hTu.same (w2.trans (s5.trans s6))).dp, okD_tab hWu (by omega), fun H7 s7 => ⟨true, rfl, iteF ?_⟩⟩
        have s57 := s5.trans (s6.trans s7)
        exact ⟨s57 _ _ w1, w2.trans s57⟩
      obtain ⟨w1, w2⟩ := hQ
      refine ⟨Nat.zero_le _, fun l0 hl0 => ?_⟩
      have u9 := Sm.new (o := .lst []) hl0
      refine ⟨Dl, l0, [], rfl, rfl, SqL.of (u9 _ _ w1), SqL.of upd_same, _, rfl, iteNS rfl ?_⟩
      have szw := w2.trans u9
      generalize upd Hw l0 (.lst []) = Hv at szw
      show _
      refine nx_mk ?_
      refine ⟨.ref tp, rfl, .ref tp, t, rfl, hTz.same szw, hW, h1, h12, fun Hr1 r1 => ⟨_, rfl, ?_⟩⟩
      refine ⟨.ref tp, rfl, .ref tp, t, rfl, (hTz.same szw).same r1, hW, h1, h12, fun Hr2 r2 => ⟨_, rfl, ?_⟩⟩
      show _
      refine nx_mk ?_
      have szr := szw.trans (r1.trans r2)
      have kall : Kp d r Hx Hr2 := (kf.trans ky).trans (sz.trans szr).kp
      have hsr := kall _ _ hs n1 n2
      have hfr := szr _ _ hfz
      have Dr2 := Dy.same (sz.trans szr)
      refine ⟨.ref so, rfl, .ref fo', rfl, _, rfl, fo', _, rfl, SqL.of hfr, fun p2 hp2 => ?_⟩
      rw [show (3 : Int) = ((3 : Nat) : Int) from rfl, cut_to]
      have sp : Sm Hr2 (upd Hr2 p2 (.lst (fs.take 3))) := Sm.new hp2
      have hp22 : (upd Hr2 p2 (.lst (fs.take 3))) p2 = some (.lst (fs.take 3)) := upd_same
      generalize upd Hr2 p2 (.lst (fs.take 3)) = Hp at sp hp22
      have szp := szr.trans sp
      have l3 : (fs.take 3).length ≤ 3 := by rw [List.length_take]; omega
      refine ⟨p2, rfl, ⟨_, SqL.of hp22⟩, fun D8 hD8 => lc_list (xs := fs.take 3) (fun j Hw => ∃ ws uts, Hw D8 = some (.lst ws) ∧ Als (Itm80 K Hw) ws uts ∧ ws.length = j ∧ Sm Hp Hw) ⟨[], [], upd_same, Als.nil, rfl, Sm.new hD8⟩ (fun j Hw _ hQ => SqL.of (hQ.choose_spec.choose_spec.2.2.2 _ _ hp22)) (fun j u Hw hu hQ => ?_) (fun Hw hQ => ?_)⟩
      · obtain ⟨ws, uts, g1, gA, gl, sw⟩ := hQ
        have hj := (List.getElem?_eq_some_iff.mp hu).1
        obtain ⟨k, hk⟩ := List.getElem?_of_mem (List.mem_of_mem_take (List.mem_of_getElem? hu))
        obtain ⟨ut, _, hTu, hWu, hu1, hu12⟩ := Als.at hAz hk
        have hTw := hTu.same (szp.trans sw)
        have juW := jtab_wt hWu
        have jul := jtab_len ut
        have rlu : (List.range ut.length).length = ut.length := List.length_range
        refine ⟨rfl, u, rfl, u, ut, rfl, hTw, hWu, hu1, by omega, fun H5 v5 s5 hv5 => ?_⟩
        have hv5 := hv5.mono (m := 11) (by omega)
        obtain ⟨d5, tb⟩ := hv5.both80 (jtab_ultra hWu) (fun x hx => by rw [jul]; exact List.mem_range.mp hx) (by rw [rlu]; omega)
        refine ⟨v5, _, d5, rfl, tb.trx, by rw [rlu]; omega, fun H6 sx s6 hsx => ?_⟩
        refine ⟨u, rfl, u, ut, rfl, hTw.same (s5.trans s6), hWu, by omega, fun H7 bu s7 hbu => ?_⟩
        refine ⟨(by show 2 ≤ sizeLine; decide), fun pt hpt => ?_⟩
        have s8 := Sm.new (o := .tup [.str sx, bu]) hpt
        have s58 := s5.trans (s6.trans (s7.trans s8))
        refine ⟨ws, s58 _ _ g1, sl_small80 (n := ws.length + 1) (by omega), ws ++ [.ref pt], uts ++ [ut], upd_same, ?_, by rw [List.length_append, gl]; rfl, fun cc o e => by rw [upd_ne (ne_of_none e hD8)]; exact (sw.trans s58) cc o e⟩
        have new : Itm80 K (upd H7 pt (.tup [.str sx, bu])) (.ref pt) ut := ⟨pt, sx, bu, d5, rfl, SqT.of upd_same, hbu.same s8, hWu, hu1, hu12, hsx, tb.trx.tk, tb.td⟩
        refine Als.mono ((Als.mono gA fun _ _ z => z.same s58).append (Als.one new)) fun _ _ z => ?_
        obtain ⟨p, s, uv, dd, z1, z2, z3, z4⟩ := z
        exact ⟨p, s, uv, dd, z1, sqT_upd (s58 _ _ g1) z2, tt_upd80 (s58 _ _ g1) z3, z4⟩
      obtain ⟨ws, uts, g1, gA, gl, sw⟩ := hQ
      have spw := sp.trans sw
      refine ⟨so, D8, _, _, rfl, rfl, spw _ _ hsr, g1, sl_small80 (n := vs.length + ws.length) (by omega), fun so' hso' => ?_⟩
      have sd := Sm.new (o := .lst (vs ++ ws)) hso'
      have Dw := Dr2.same spw
      have nn := Dw.ne hso'
      exact ⟨_, _, _, _, so', vs ++ ws, ts ++ uts, rfl, upd_same, nn.1, nn.2.2, ((Als.mono hA fun _ _ z => (z.kp hD kall).same (spw.trans sd))).append (Als.mono gA fun _ _ z => z.same sd), by rw [List.length_append]; omega, (Dw.same sd).mono (by omega)⟩
    obtain ⟨x3, x4, x5, x6, so, vs, ts, rfl, hs, n1, n2, hA, vl, hD⟩ := hI
    show _
    refine ⟨.ref so, rfl, so, rfl, ⟨_, SqL.of hs⟩, for_list (xs := vs) (fun j σ Hy => ∃ x7 x8, σ = [some (.ref a), some (.ref d), some (.ref so), x3, x4, x5, x6, x7, x8, none, none, none] ∧ Sm Hx Hy) ⟨none, none, rfl, Sm.refl _⟩ (fun j σ Hy _ hI => ?_) (fun j v σ Hy hv hI => ?_) (fun σ Hy hI => ?_)⟩
    · obtain ⟨_, _, _, sy⟩ := hI
      exact SqL.of (sy _ _ hs)
    · obtain ⟨x7, x8, rfl, sy⟩ := hI
      obtain ⟨t, _, p, sx, uv, dx, rfl, hp, hU, hW, h1, h12, hsx, kx, tx⟩ := Als.at hA hv
      have hsy := sy _ _ hs
      show _
      refine ⟨p, _, rfl, sy.sqT hp, rfl, _, _, rfl, _, _, rfl, rfl, ?_⟩
      refine ⟨.ref so, rfl, so, rfl, ⟨_, SqL.of hsy⟩, fun Dl hDl => lc_list (xs := vs) (fun i Hz => Hz Dl = some (.lst []) ∧ Sm Hy Hz) ⟨upd_same, Sm.new hDl⟩ (fun i Hz _ hQ => SqL.of (hQ.2 _ _ hsy)) (fun i u Hz hu hQ => ?_) (fun Hz hQ => ?_)⟩
      · obtain ⟨w1, w2⟩ := hQ
        obtain ⟨t', _, p', sx', uv', dx', rfl, hp', hU', hW', h1', h12', hsx', kx', tx'⟩ := Als.at hA hu
        have sz := sy.trans w2
        refine ⟨p', _, rfl, sz.sqT hp', rfl, _, _, rfl, _, _, rfl, rfl, rfl, .str sx, rfl, .str sx', rfl, rfl, uv, rfl, uv', rfl, tabD (jtab t), tabD (jtab t'), (hU.same sz).dp, (hU'.same sz).dp, lay_tab _, lay_tab _, ?_⟩
        rw [eqv_tabs, items_eq80 hW hW' hsx hsx' kx kx' tx tx']
        refine ⟨rfl, _, rfl, ?_⟩
        rw [decide_eq_true rfl]
        exact iteF ⟨w1, w2⟩
      · obtain ⟨w1, w2⟩ := hQ
        refine ⟨Nat.zero_le _, fun l0 hl0 => ?_⟩
        have s9 := Sm.new (o := .lst []) hl0
        refine ⟨Dl, l0, [], rfl, rfl, SqL.of (s9 _ _ w1), SqL.of upd_same, _, rfl, iteNS rfl ?_⟩
        exact ⟨_, _, rfl, sy.trans (w2.trans s9)⟩
    · exact q _
end
section
variable {P : Program} {w : World} {K : PySem.W.Frag} {mg : Str → Option Value} {base : Heap}
/-! ### the program on values of any kind -/
def sp_wholeD (K : PySem.W.Frag) : Sp := fun vs H Q _ => ∃ (ok : Addr → Prop) (v : V) (x : PyData), vs = [v] ∧ Da K ok H v x ∧ Q (.bl (isI x && !isB x)) H
theorem ok_wholeD {f : Addr} {fd : FuncData} {k : Nat} (F : Fun K "is_whole" "is_whole" s_is_whole f fd) (B : Bi mg) : FnOk P w K mg base CX0 (k + 1) f fd ["value"] (sp_wholeD K) := by
  refine F.ok sc_is_whole (fun vs H Q E h => ?_) (fun cdv A outer s H vs Q E hr h => ?_)
  · obtain ⟨ok, v, x, rfl, _⟩ := h
    rfl
  · obtain ⟨ok, v, x, rfl, hd, q⟩ := h
    refine ⟨_, pss_one (ps_ret (pe_and (pe_callB call_isi (by rfl) B.isinstance (by decide +kernel) (pa_cons (pv 0) (pa_cons (pe_bltn (by rfl) B.int (by decide +kernel) (v := .ty "int") rfl) pa_nil)))
      (pe_one (pe_not (pe_callB call_isi (by rfl) B.isinstance (by decide +kernel) (pa_cons (pv 0) (pa_cons (pe_bltn (by rfl) B.bool (by decide +kernel) (v := .ty "bool") rfl) pa_nil))))))), ?_⟩
    refine ⟨v, rfl, v, .ty "int", .type (tyN x), _, isI x, rfl, .ty _, hd.ty, kit_ty (kt_int x), _, rfl, ?_⟩
    cases hI : isI x with
    | false =>
      rw [hI] at q
      exact q
    | true =>
      rw [hI] at q
      exact ⟨v, rfl, v, .ty "bool", .type (tyN x), _, isB x, rfl, .ty _, hd.ty, kit_ty (kt_bool x), _, rfl, q⟩
def sp_islD (K : PySem.W.Frag) : Sp := fun vs H Q _ => ∃ (ok : Addr → Prop) (v : V) (x : PyData), vs = [v] ∧ Da K ok H v x ∧ Q (.bl (isLv x)) H
theorem ok_islD {f fW : Addr} {fd fdW : FuncData} {k : Nat} (F : Fun K "is_level" "is_level" s_is_level f fd) (DW : Df K mg "is_whole" s_is_whole fW fdW ["value"]) (gL : ∃ t, mg "LEVEL" = some (.int 1000000000000 t)) (B : Bi mg) : FnOk P w K mg base CX0 (k + 2) f fd ["value"] (sp_islD K) := by
  obtain ⟨tL, gL⟩ := gL
  have GW : FnOk P w K mg base CX0 (k + 1) fW fdW ["value"] (sp_wholeD K) := ok_wholeD DW.F B
  refine F.ok sc_is_level (fun vs H Q E h => ?_) (fun cdv A outer s H vs Q E hr h => ?_)
  · obtain ⟨ok, v, x, rfl, _⟩ := h
    rfl
  · obtain ⟨ok, v, x, rfl, hd, q⟩ := h
    refine ⟨_, pss_one (ps_ret (pe_and (pe_cl DW GW hr (pa_cons (pv 0) pa_nil)) (pe_one (pe_chain op_le op_le pe_int (pv 0) (pe_glob (v := .int 1000000000000) rfl gL ⟨_, rfl⟩))))), ?_⟩
    refine ⟨v, rfl, ok, v, x, rfl, hd, _, rfl, ?_⟩
    cases hI : isI x && !isB x with
    | false =>
      rw [isLv_int hI] at q
      exact q
    | true =>
      have h1 : isI x = true := by cases h : isI x <;> simp_all
      have h2 : isB x = false := by cases h : isB x <;> simp_all
      obtain ⟨i, rfl⟩ := isI_yes h1 h2
      cases hd
      refine ⟨.int i, rfl, _, _, rfl, rfl, _, rfl, ?_⟩
      have q' : Q (.bl (decide ((1 : Int) ≤ i) && decide (i ≤ 1000000000000))) H := q
      by_cases z : (1 : Int) ≤ i
      · rw [decide_eq_true z] at q' ⊢
        exact ⟨_, _, rfl, rfl, q'⟩
      · rw [decide_eq_false z] at q' ⊢
        exact q'
def sp_rowfD (K : PySem.W.Frag) : Sp := fun vs H Q _ => ∃ (ok : Addr → Prop) (v : V) (x : PyData) (n : Nat), vs = [.int (n : Int), v] ∧ Da K ok H v x ∧ ∀ H' u, Sm H H' → Dp K H' u (rowF n x) → Q u H'
theorem ok_rowfD {f fS fW : Addr} {fd fdS fdW : FuncData} {k : Nat} (F : Fun K "find_row_fault" "find_row_fault" s_find_row_fault f fd) (DS : Df K mg "is_level" s_is_level fS fdS ["value"]) (DW : Df K mg "is_whole" s_is_whole fW fdW ["value"]) (gL : ∃ t, mg "LEVEL" = some (.int 1000000000000 t)) (B : Bi mg) :
    FnOk P w K mg base CX0 (k + 3) f fd ["at", "row"] (sp_rowfD K) := by
  have GS : FnOk P w K mg base CX0 (k + 2) fS fdS ["value"] (sp_islD K) := ok_islD DS.F DW gL B
  refine F.ok sc_find_row_fault (fun vs H Q E h => ?_) (fun cdv A outer s H vs Q E hr h => ?_)
  · obtain ⟨ok, v, x, n, rfl, _⟩ := h
    rfl
  · obtain ⟨ok, v, x, n, rfl, hd, q⟩ := h
    have nd := sc_find_row_fault.nd
    refine ⟨_, pss_cons (ps_if (PW.pt (pw_or (pt_not (pt_val (pe_callB call_isi (by rfl) B.isinstance (by decide +kernel) (pa_cons (pv 1) (pa_cons (pe_bltn (by rfl) B.tuple (by decide +kernel) (v := .ty "tuple") rfl) pa_nil))))) (pw_or1 (pt_cmpR op_ne (pe_len B (pv 1)) (pv 0) (nomark _)))))
        (pss_one (ps_ret (pe_tup (pa_cons (pe_tup (pa_cons (pv 0) pa_nil)) (pa_cons pe_str pa_nil))))) pss_nil)
      (pss_cons (ps_for PassesOwn.never rfl (pi_enumT rfl B.enumerate (pa_cons (pv 1) pa_nil)) (pg_tup rfl (pgs_cons (pg_name (i := 2) nd rfl (.inl rfl)) (pgs_cons (pg_name (i := 3) nd rfl (.inl rfl)) pgs_nil)))
        (pss_one (ps_if (pt_not (pt_val (pe_cl DS GS hr (pa_cons (pv 3) pa_nil)))) (pss_one (ps_ret (pe_tup (pa_cons (pe_tup (pa_cons (pv 0) (pa_cons (pv 2) pa_nil))) (pa_cons pe_str pa_nil))))) pss_nil)))
      (pss_one (ps_ret pe_non))), ?_⟩
    refine ⟨v, rfl, v, .ty "tuple", .type (tyN x), _, isT x, rfl, .ty _, hd.ty, kit_ty (kt_tup x), _, rfl, ?_⟩
    have row : rowF n x = .tuple [.tuple [.int (n : Int)], .str "row"] → ∀ p, H p = none → ∀ p2, upd H p (.tup [.int (n : Int)]) p2 = none → Q (.ref p2) (upd (upd H p (.tup [.int (n : Int)])) p2 (.tup [.ref p, .str "row"])) := fun e p hp p2 hp2 => by
      refine q _ _ ((Sm.new hp).trans (Sm.new hp2)) ?_
      rw [e]
      exact .tup (SqT.of upd_same) (.cons (.tup ((Sm.new hp2).sqT (SqT.of upd_same)) (.cons (.int _) .nil)) (.cons (.str _) .nil))
    cases hT : isT x with
    | false =>
      have e : rowF n x = .tuple [.tuple [.int (n : Int)], .str "row"] := by cases x <;> first | rfl | (simp [isT] at hT)
      exact ⟨.int (n : Int), rfl, (by show 1 ≤ sizeLine; decide), fun p hp => ⟨(by show 2 ≤ sizeLine; decide), fun p2 hp2 => row e p hp p2 hp2⟩⟩
    | true =>
      obtain ⟨ds, rfl⟩ := isT_yes hT
      cases hd with
      | @tup a xs _ ha hall =>
        have hxl := hall.len
        refine ⟨.ref a, rfl, a, xs, rfl, .inr ha, .int (n : Int), rfl, rfl, _, rfl, ?_⟩
        by_cases hn : ds.length = n
        · have eb : (!decide (V.int (xs.length : Int) = V.int (n : Int))) = false := by rw [hxl, hn]; simp
          rw [eb]
          have hrow : rowF n (.tuple ds) = (match badAt ds 0 with | none => .none | some j => .tuple [.tuple [.int (n : Int), .int (j : Int)], .str "level"]) := by
            show (if ds.length = n then _ else _) = _
            rw [if_pos hn]
            try (cases badAt ds 0 <;> rfl)
          refine ⟨.ref a, rfl, a, _, rfl, ha, for_enumT (xs := xs) (fun i σ Hx => ∃ x2 x3, σ = [some (.int (n : Int)), some (.ref a), x2, x3] ∧ Sm H Hx ∧ badAt ds 0 = badAt (ds.drop i) i) ⟨none, none, rfl, Sm.refl _, rfl⟩ (fun i σ Hx hI => ?_) (fun i x T σ Hx hx hI hT => ?_) (fun σ Hx hI => ?_)⟩
          · obtain ⟨_, _, _, sx, _⟩ := hI
            exact sx.sqT ha
          · obtain ⟨x2, x3, rfl, sx, hb⟩ := hI
            obtain ⟨y, hy, dy⟩ := hall.at hx
            have sT : Sm Hx (upd Hx T (.tup [.int (i : Nat), x])) := Sm.new hT
            have s1 := sx.trans sT
            refine ⟨T, _, rfl, SqT.of upd_same, rfl, _, _, rfl, _, _, rfl, rfl, ?_⟩
            refine ⟨x, rfl, ok, x, y, rfl, dy.same s1, _, rfl, ?_⟩
            rw [drop_at hy, badAt_cons] at hb
            cases hL : isLv y with
            | true =>
              rw [hL, if_pos rfl] at hb
              exact ⟨_, _, rfl, s1, hb⟩
            | false =>
              rw [hL, if_neg (by decide)] at hb
              refine ⟨.int (n : Int), rfl, .int (i : Int), rfl, (by show 2 ≤ sizeLine; decide), fun p hp => ⟨(by show 2 ≤ sizeLine; decide), fun p2 hp2 => ?_⟩⟩
              refine q _ _ (s1.trans ((Sm.new hp).trans (Sm.new hp2))) ?_
              rw [hrow, hb]
              exact .tup (SqT.of upd_same) (.cons (.tup ((Sm.new hp2).sqT (SqT.of upd_same)) (.cons (.int _) (.cons (.int _) .nil))) (.cons (.str _) .nil))
          · obtain ⟨x2, x3, rfl, sx, hb⟩ := hI
            refine q _ _ sx ?_
            rw [hxl, List.drop_length] at hb
            rw [hrow, hb]
            exact .non
        · have eb : (!decide (V.int (xs.length : Int) = V.int (n : Int))) = true := by rw [hxl]; simp; omega
          rw [eb]
          have e : rowF n (.tuple ds) = .tuple [.tuple [.int (n : Int)], .str "row"] := by
            show (if ds.length = n then _ else _) = _
            rw [if_neg hn]
          exact ⟨.int (n : Int), rfl, (by show 1 ≤ sizeLine; decide), fun p hp => ⟨(by show 2 ≤ sizeLine; decide), fun p2 hp2 => row e p hp p2 hp2⟩⟩
def sp_faultD (K : PySem.W.Frag) : Sp := fun vs H Q _ => ∃ (ok : Addr → Prop) (v : V) (x : PyData), vs = [v] ∧ Da K ok H v x ∧ ∀ H' u, Sm H H' → Dp K H' u (faultD x) → Q u H'
structure FaultDefs (K : PySem.W.Frag) (mg : Str → Option Value) : Prop where
  B : Bi mg
  gL : ∃ t, mg "LEVEL" = some (.int 1000000000000 t)
  gI : ∃ t, mg "ITEMS" = some (.int 12 t)
  whole : ∃ f fd, Df K mg "is_whole" s_is_whole f fd ["value"]
  isl : ∃ f fd, Df K mg "is_level" s_is_level f fd ["value"]
  rowf : ∃ f fd, Df K mg "find_row_fault" s_find_row_fault f fd ["at", "row"]
theorem ok_faultD {f : Addr} {fd : FuncData} {k : Nat} (F : Fun K "find_fault" "find_fault" s_find_fault f fd) (T : FaultDefs K mg) : FnOk P w K mg base CX0 (k + 4) f fd ["value"] (sp_faultD K) := by
  have B := T.B
  obtain ⟨tI, gI⟩ := T.gI
  obtain ⟨fW, fdW, DW⟩ := T.whole
  obtain ⟨fS, fdS, DS⟩ := T.isl
  obtain ⟨fR, fdR, DR⟩ := T.rowf
  have GR : FnOk P w K mg base CX0 (k + 3) fR fdR ["at", "row"] (sp_rowfD K) := ok_rowfD DR.F DS DW T.gL B
  refine F.ok sc_find_fault (fun vs H Q E h => ?_) (fun cdv A outer s H vs Q E hr h => ?_)
  · obtain ⟨ok, v, x, rfl, _⟩ := h
    rfl
  · obtain ⟨ok, v, x, rfl, hd, q⟩ := h
    have nd := sc_find_fault.nd
    refine ⟨_, pss_cons (ps_if (PW.pt (pw_or (pt_not (pt_val (pe_callB call_isi (by rfl) B.isinstance (by decide +kernel) (pa_cons (pv 0) (pa_cons (pe_bltn (by rfl) B.tuple (by decide +kernel) (v := .ty "tuple") rfl) pa_nil))))) (pw_or1 (pt_not (pt_chain op_le op_le pe_int (pe_len B (pv 0)) (pe_glob (v := .int 12) rfl gI ⟨_, rfl⟩))))))
        (pss_one (ps_ret (pe_tup (pa_cons (pe_tup pa_nil) (pa_cons pe_str pa_nil))))) pss_nil)
      (pss_cons (ps_for PassesOwn.never rfl (pi_enumT rfl B.enumerate (pa_cons (pv 0) pa_nil)) (pg_tup rfl (pgs_cons (pg_name (i := 1) nd rfl (.inl rfl)) (pgs_cons (pg_name (i := 2) nd rfl (.inl rfl)) pgs_nil)))
        (pss_cons (ps_set (i := 3) nd rfl (.inl rfl) (pe_cl DR GR hr (pa_cons (pv 1) (pa_cons (pv 2) pa_nil)))) (pss_one (ps_if (pt_cmpR op_notN (pv 3) pe_non (nomark _)) (pss_one (ps_ret (pv 3))) pss_nil))))
      (pss_one (ps_ret pe_non))), ?_⟩
    refine ⟨v, rfl, v, .ty "tuple", .type (tyN x), _, isT x, rfl, .ty _, hd.ty, kit_ty (kt_tup x), _, rfl, ?_⟩
    have tab : faultD x = .tuple [.tuple [], .str "table"] → ∀ p, H p = none → ∀ p2, upd H p (.tup []) p2 = none → Q (.ref p2) (upd (upd H p (.tup [])) p2 (.tup [.ref p, .str "table"])) := fun e p hp p2 hp2 => by
      refine q _ _ ((Sm.new hp).trans (Sm.new hp2)) ?_
      rw [e]
      exact .tup (SqT.of upd_same) (.cons (.tup ((Sm.new hp2).sqT (SqT.of upd_same)) .nil) (.cons (.str _) .nil))
    cases hT : isT x with
    | false =>
      have e : faultD x = .tuple [.tuple [], .str "table"] := by cases x <;> first | rfl | (simp [isT] at hT)
      exact ⟨Nat.zero_le _, fun p hp => ⟨(by show 2 ≤ sizeLine; decide), fun p2 hp2 => tab e p hp p2 hp2⟩⟩
    | true =>
      obtain ⟨ds, rfl⟩ := isT_yes hT
      cases hd with
      | @tup a xs _ ha hall =>
        have hxl := hall.len
        have no : ¬ (1 ≤ ds.length ∧ ds.length ≤ 12) → faultD (.tuple ds) = .tuple [.tuple [], .str "table"] := fun z => by
          show (if 1 ≤ ds.length ∧ ds.length ≤ 12 then _ else _) = _
          rw [if_neg z]
        refine ⟨.ref a, rfl, a, xs, rfl, .inr ha, _, _, rfl, rfl, _, rfl, ?_⟩
        by_cases h1 : 1 ≤ ds.length
        rotate_left
        · rw [decide_eq_false (show ¬ (1 : Int) ≤ (xs.length : Int) by omega)]
          exact ⟨_, rfl, Nat.zero_le _, fun p hp => ⟨(by show 2 ≤ sizeLine; decide), fun p2 hp2 => tab (no (by omega)) p hp p2 hp2⟩⟩
        rw [decide_eq_true (show (1 : Int) ≤ (xs.length : Int) by omega)]
        refine ⟨_, _, rfl, rfl, _, rfl, ?_⟩
        by_cases h2 : ds.length ≤ 12
        rotate_left
        · rw [decide_eq_false (show ¬ (xs.length : Int) ≤ (12 : Int) by omega)]
          exact ⟨Nat.zero_le _, fun p hp => ⟨(by show 2 ≤ sizeLine; decide), fun p2 hp2 => tab (no (by omega)) p hp p2 hp2⟩⟩
        rw [decide_eq_true (show (xs.length : Int) ≤ (12 : Int) by omega)]
        have hf : faultD (.tuple ds) = rowsF ds 0 := by
          show (if 1 ≤ ds.length ∧ ds.length ≤ 12 then _ else _) = _
          rw [if_pos ⟨h1, h2⟩]
        refine ⟨.ref a, rfl, a, _, rfl, ha, for_enumT (xs := xs) (fun i σ Hx => ∃ x1 x2 x3, σ = [some (.ref a), x1, x2, x3] ∧ Sm H Hx ∧ rowsF ds 0 = rowsF (ds.drop i) i) ⟨none, none, none, rfl, Sm.refl _, rfl⟩ (fun i σ Hx hI => ?_) (fun i x Tp σ Hx hx hI hTp => ?_) (fun σ Hx hI => ?_)⟩
        · obtain ⟨_, _, _, _, sx, _⟩ := hI
          exact sx.sqT ha
        · obtain ⟨x1, x2, x3, rfl, sx, hb⟩ := hI
          obtain ⟨y, hy, dy⟩ := hall.at hx
          have sT : Sm Hx (upd Hx Tp (.tup [.int (i : Nat), x])) := Sm.new hTp
          have s1 := sx.trans sT
          refine ⟨Tp, _, rfl, SqT.of upd_same, rfl, _, _, rfl, _, _, rfl, rfl, ?_⟩
          refine ⟨.int (i : Nat), rfl, x, rfl, ok, x, y, i, rfl, dy.same s1, fun H2 u s2 du => ?_⟩
          rw [drop_at hy, rowsF_cons] at hb
          rcases rowF_cases i y with e | ⟨ps, st, e, _⟩
          · rw [e] at hb du
            cases du
            exact ⟨_, rfl, rfl, _, rfl, iteNS rfl ⟨_, _, _, rfl, s1.trans s2, hb⟩⟩
          · rw [e] at hb du
            have hu : u ≠ .non := by cases du; intro z; cases z
            refine ⟨u, rfl, rfl, _, rfl, ?_⟩
            rw [decide_eq_false hu]
            refine ⟨u, rfl, q _ _ (s1.trans s2) ?_⟩
            rw [hf, hb]
            exact du
        · obtain ⟨x1, x2, x3, rfl, sx, hb⟩ := hI
          refine q _ _ sx ?_
          rw [hxl, List.drop_length] at hb
          rw [hf, hb]
          exact .non
end
theorem badAt_lv55 : ∀ {ns : List Int} {i : Nat}, (∀ x ∈ ns, LvOk x) → badAt (ns.map PyData.int) i = none
  | [], _, _ => rfl
  | x :: ns, i, h => by
    obtain ⟨h1, h2⟩ := h x List.mem_cons_self
    have e : isLv (.int x) = true := by
      show (decide (1 ≤ x) && decide (x ≤ 1000000000000)) = true
      rw [decide_eq_true h1, decide_eq_true h2]; rfl
    rw [List.map_cons, badAt_cons, e, if_pos rfl]
    exact badAt_lv55 fun y hy => h y (List.mem_cons_of_mem _ hy)
/-! ### the state of a board -/
def bF67 (kv tv : V) (lv : Int) (bz : Bool) (rv : V) : List (Str × V) := [("kept", kv), ("tables", tv), ("level", .int lv), ("busy", .bl bz), ("rows", rv)]
theorem lk67 {k : Str} {v : V} {r : List (Str × V)} : List.lookup k ((k, v) :: r) = some v := by
  have e : (k == k) = true := beq_self_eq_true k
  simp only [List.lookup, e]
theorem ln67 {k g : Str} {v : V} {r : List (Str × V)} (h : (k == g) = false) : List.lookup k ((g, v) :: r) = List.lookup k r := by
  simp only [List.lookup, h]
theorem pn67 {f g : Str} {v x : V} {r : List (Str × V)} (h : ¬ g = f) : putF f v ((g, x) :: r) = (g, x) :: putF f v r := if_neg h
section
variable {kv tv rv v : V} {lv l : Int} {bz z : Bool}
theorem bF_kept : (bF67 kv tv lv bz rv).lookup ("kept" : Str) = some kv := lk67
theorem bF_tables : (bF67 kv tv lv bz rv).lookup ("tables" : Str) = some tv := (ln67 (by decide +kernel)).trans lk67
theorem bF_level : (bF67 kv tv lv bz rv).lookup ("level" : Str) = some (.int lv) := (ln67 (by decide +kernel)).trans ((ln67 (by decide +kernel)).trans lk67)
theorem bF_no {m : Str} (h : ([("kept" : Str), "tables", "level", "busy", "rows"].all fun g => !(m == g)) = true) : (bF67 kv tv lv bz rv).lookup m = none := by
  simp only [List.all_cons, List.all_nil, Bool.and_true, Bool.and_eq_true, Bool.not_eq_true'] at h
  obtain ⟨h1, h2, h3, h4, h5⟩ := h
  exact (ln67 h1).trans ((ln67 h2).trans ((ln67 h3).trans ((ln67 h4).trans ((ln67 h5).trans rfl))))
theorem pI1 : putF "tables" tv [(("kept" : Str), kv)] = [(("kept" : Str), kv), ("tables", tv)] := (pn67 (by decide +kernel)).trans rfl
theorem pI2 : putF "level" (.int lv) [(("kept" : Str), kv), ("tables", tv)] = [(("kept" : Str), kv), ("tables", tv), ("level", .int lv)] := (pn67 (by decide +kernel)).trans (congrArg _ ((pn67 (by decide +kernel)).trans rfl))
theorem pI3 : putF "busy" (.bl bz) [(("kept" : Str), kv), ("tables", tv), ("level", .int lv)] = [(("kept" : Str), kv), ("tables", tv), ("level", .int lv), ("busy", .bl bz)] := (pn67 (by decide +kernel)).trans (congrArg _ ((pn67 (by decide +kernel)).trans (congrArg _ ((pn67 (by decide +kernel)).trans rfl))))
theorem pI4 : putF "rows" rv [(("kept" : Str), kv), ("tables", tv), ("level", .int lv), ("busy", .bl bz)] = bF67 kv tv lv bz rv := (pn67 (by decide +kernel)).trans (congrArg _ ((pn67 (by decide +kernel)).trans (congrArg _ ((pn67 (by decide +kernel)).trans (congrArg _ ((pn67 (by decide +kernel)).trans rfl))))))
end
/-- all but the board stays -/
def Kb67 (b : Addr) (H H' : Hp) : Prop := ∀ a o, H a = some o → a ≠ b → H' a = some o
theorem Kb67.refl (b : Addr) (H : Hp) : Kb67 b H H := fun _ _ h _ => h
theorem Kb67.trans {b : Addr} {H H1 H2 : Hp} (x : Kb67 b H H1) (y : Kb67 b H1 H2) : Kb67 b H H2 := fun a o h n => y a o (x a o h n) n
theorem Kb67.of {b : Addr} {H H' : Hp} (x : Sm H H') : Kb67 b H H' := fun a o h _ => x a o h
theorem Kb67.upd {b : Addr} {H : Hp} {o : HO} : Kb67 b H (upd H b o) := fun a u h n => by rw [upd_ne n]; exact h
theorem Kb67.new {b : Addr} {H H' : Hp} (x : Kb67 b H H') (h : H b = none) : Sm H H' := fun a o e => x a o e (ne_of_none e h)
theorem Kb67.sqT {K : PySem.W.Frag} {b : Addr} {H H' : Hp} {C dx a : Addr} {fs : List (Str × V)} {xs : List V} (x : Kb67 b H H') (hb : H b = some (.ins C dx fs)) (h : SqT K H a xs) : SqT K H' a xs := by
  rcases h with (q | ⟨o, q⟩) | q
  · exact .inl (.inl (x _ _ q (ne_of q hb (by intro z; cases z))))
  · exact .inl (.inr ⟨o, x _ _ q (ne_of q hb (by intro z; cases z))⟩)
  · exact .inr q
theorem Kb67.it {K : PySem.W.Frag} {b : Addr} {H H' : Hp} {C dx : Addr} {fs : List (Str × V)} {v : V} {ns : List Int} (x : Kb67 b H H') (hb : H b = some (.ins C dx fs)) (h : IT K H v ns) : IT K H' v ns := by
  obtain ⟨p, e, h⟩ := h
  exact ⟨p, e, x.sqT hb h⟩
theorem Kb67.tt {K : PySem.W.Frag} {b : Addr} {H H' : Hp} {C dx : Addr} {fs : List (Str × V)} {v : V} {t : List (List Int)} (x : Kb67 b H H') (hb : H b = some (.ins C dx fs)) (h : TT K H v t) : TT K H' v t := by
  obtain ⟨p, vs, e, h, r⟩ := h
  exact ⟨p, vs, e, x.sqT hb h, r.1, fun i v ns h1 h2 => x.it hb (r.2 i v ns h1 h2)⟩
theorem Kb67.dr {b d c r : Addr} {n : Nat} {H H' : Hp} {C dx : Addr} {fs : List (Str × V)} (x : Kb67 b H H') (hb : H b = some (.ins C dx fs)) (h : Dr H d c r n) : Dr H' d c r n := by
  obtain ⟨⟨cs, rs, t, h1, h2, h3, h4⟩, a, e, k⟩ := h
  exact ⟨⟨cs, rs, t, x _ _ h1 (ne_of h1 hb (by intro z; cases z)), x _ _ h2 (ne_of h2 hb (by intro z; cases z)), x _ _ h3 (ne_of h3 hb (by intro z; cases z)), h4⟩, a, e, k⟩
/-- tables in a row -/
def Tb67 (K : PySem.W.Frag) (H : Hp) (vs : List V) (ts : List (List (List Int))) : Prop := vs.length = ts.length ∧ ∀ (i : Nat) (v : V) (t : List (List Int)), vs[i]? = some v → ts[i]? = some t → TT K H v t
def Tk67 (t : List (List Int)) : Prop := WT t ∧ 1 ≤ t.length ∧ t.length ≤ 12
theorem Tb67.imp {K : PySem.W.Frag} {H H' : Hp} {vs : List V} {ts : List (List (List Int))} (h : Tb67 K H vs ts) (e : ∀ v t, TT K H v t → TT K H' v t) : Tb67 K H' vs ts := ⟨h.1, fun i v t h1 h2 => e v t (h.2 i v t h1 h2)⟩
theorem Tb67.one {K : PySem.W.Frag} {H : Hp} {v : V} {t : List (List Int)} (h : TT K H v t) : Tb67 K H [v] [t] := ⟨rfl, fun i u s h1 h2 => by
  cases i with
  | zero => cases Option.some.inj h1; cases Option.some.inj h2; exact h
  | succ i => cases h1⟩
theorem Tb67.snoc {K : PySem.W.Frag} {H : Hp} {vs : List V} {ts : List (List (List Int))} {v : V} {t : List (List Int)} (h : Tb67 K H vs ts) (q : TT K H v t) : Tb67 K H (vs ++ [v]) (ts ++ [t]) := by
  refine ⟨by rw [List.length_append, List.length_append, h.1]; rfl, fun i u s h1 h2 => ?_⟩
  by_cases hi : i < vs.length
  · rw [List.getElem?_append_left hi] at h1
    rw [List.getElem?_append_left (by rw [← h.1]; exact hi)] at h2
    exact h.2 i u s h1 h2
  · rw [List.getElem?_append_right (by omega)] at h1
    rw [List.getElem?_append_right (by rw [← h.1]; omega), ← h.1] at h2
    cases e : i - vs.length with
    | zero =>
      rw [e] at h1 h2
      cases Option.some.inj h1
      cases Option.some.inj h2
      exact q
    | succ k => rw [e] at h1; simp at h1
/-- the last one of them -/
theorem Tb67.last {K : PySem.W.Frag} {H : Hp} {vs : List V} {ts : List (List (List Int))} (h : Tb67 K H vs ts) (n : 1 ≤ ts.length) : ∃ v, atI vs (-1) = some v ∧ TT K H v (ts.getLastD []) := by
  have hl : vs.length - 1 < vs.length := by rw [h.1]; omega
  have e1 : vs[vs.length - 1]? = some vs[vs.length - 1] := List.getElem?_eq_getElem hl
  have e2 : ts[vs.length - 1]? = some (ts.getLastD []) := by
    rw [h.1, List.getLastD_eq_getLast?, List.getLast?_eq_getElem?, List.getElem?_eq_getElem (by omega)]
    rfl
  refine ⟨_, ?_, h.2 _ _ _ e1 e2⟩
  unfold atI ixN
  rw [if_neg (by decide), if_pos (by omega)]
  show vs[((vs.length : Int) + (-1)).toNat]? = _
  rw [show ((vs.length : Int) + (-1)).toNat = vs.length - 1 by omega]
  exact e1
structure BS67 where
  acts : List V
  tvs : List V
  tabs : List (List (List Int))
  cut : Int
  busy : Bool
  rows : List V
  ra : Addr
/-- the table of a board -/
def BS67.top (s : BS67) : List (List Int) := s.tabs.getLastD []
structure Bd67 (K : PySem.W.Frag) (ok : Addr → Prop) (C : Addr) (H : Hp) (b : Addr) (s : BS67) : Prop where
  ex : ∃ dx ka ta, H b = some (.ins C dx (bF67 (.ref ka) (.ref ta) s.cut s.busy (.ref s.ra))) ∧ SqT K H ka s.acts ∧ SqT K H ta s.tvs ∧ H s.ra = some (.lst s.rows) ∧ ok s.ra
  tb : Tb67 K H s.tvs s.tabs
  tk : ∀ t ∈ s.tabs, Tk67 t
  len : s.tabs.length = s.acts.length + 1
  big : s.acts.length ≤ 60 ∧ s.rows.length ≤ 100
theorem Bd67.ins {K : PySem.W.Frag} {ok : Addr → Prop} {C : Addr} {H : Hp} {b : Addr} {s : BS67} (h : Bd67 K ok C H b s) : ∃ dx fs, H b = some (.ins C dx fs) := by
  obtain ⟨dx, _, _, e, _⟩ := h.ex
  exact ⟨dx, _, e⟩
theorem Bd67.topk {K : PySem.W.Frag} {ok : Addr → Prop} {C : Addr} {H : Hp} {b : Addr} {s : BS67} (h : Bd67 K ok C H b s) : Tk67 s.top := by
  have hl := h.len
  apply h.tk
  unfold BS67.top
  rw [List.getLastD_eq_getLast?, List.getLast?_eq_getElem?, List.getElem?_eq_getElem (by omega)]
  exact List.getElem_mem _
theorem Bd67.same {K : PySem.W.Frag} {ok : Addr → Prop} {C : Addr} {H H' : Hp} {b : Addr} {s : BS67} (h : Bd67 K ok C H b s) (e : Sm H H') : Bd67 K ok C H' b s := by
  obtain ⟨dx, ka, ta, h1, h2, h3, h4, h5⟩ := h.ex
  exact ⟨⟨dx, ka, ta, e _ _ h1, e.sqT h2, e.sqT h3, e _ _ h4, h5⟩, h.tb.imp fun v t q => q.same e, h.tk, h.len, h.big⟩
/-- something is drawn -/
theorem Bd67.kp {K : PySem.W.Frag} {ok : Addr → Prop} {C : Addr} {H H' : Hp} {b d c r : Addr} {n : Nat} {s : BS67} (h : Bd67 K ok C H b s) (hok : ∀ a, ok a → a ≠ d ∧ a ≠ r) (D : Dr H d c r n) (e : Kp d r H H') : Bd67 K ok C H' b s := by
  obtain ⟨dx, ka, ta, h1, h2, h3, h4, h5⟩ := h.ex
  obtain ⟨x, hx⟩ := D.d_lst
  obtain ⟨y, hy⟩ := D.r_lst
  exact ⟨⟨dx, ka, ta, e _ _ h1 (ne_of h1 hx (by intro z; cases z)) (ne_of h1 hy (by intro z; cases z)), D.kpT e h2, D.kpT e h3, e _ _ h4 (hok _ h5).1 (hok _ h5).2, h5⟩, h.tb.imp fun v t q => q.kp D e, h.tk, h.len, h.big⟩
theorem rowsF_ok67 (t : List (List Int)) (hW : WT t) : ∀ (n k : Nat), t.length - k = n → rowsF ((t.drop k).map rowD) k = .none
  | 0, k, h => by
    rw [List.drop_of_length_le (by omega)]
    rfl
  | n + 1, k, h => by
    have hk : k < t.length := by omega
    rw [List.drop_eq_getElem_cons hk, List.map_cons, rowsF_cons]
    obtain ⟨h1, h2⟩ := hW k _ (List.getElem?_eq_getElem hk)
    have e : rowF k (rowD t[k]) = .none := by
      show (if (t[k].map PyData.int).length = k then (match badAt (t[k].map PyData.int) 0 with | none => PyData.none | some j => .tuple [.tuple [.int (k : Int), .int (j : Int)], .str "level"]) else .tuple [.tuple [.int (k : Int)], .str "row"]) = .none
      rw [if_pos (by rw [List.length_map]; exact h1), badAt_lv55 h2]
    rw [e]
    exact rowsF_ok67 t hW n (k + 1) (by omega)
theorem faultD_tab67 {t : List (List Int)} (h : Tk67 t) : faultD (tabD t) = .none := by
  show (if 1 ≤ (t.map rowD).length ∧ (t.map rowD).length ≤ 12 then rowsF (t.map rowD) 0 else .tuple [.tuple [], .str "table"]) = .none
  rw [if_pos (by rw [List.length_map]; exact h.2)]
  have := rowsF_ok67 t h.1 _ 0 rfl
  rwa [List.drop_zero] at this
section
variable {P : Program} {w : World} {K : PySem.W.Frag} {mg : Str → Option Value} {base : Heap}
/-! ### boards in the law of texts -/
theorem eqDK80 (K : PySem.W.Frag) {X : Cx} (h : X.K = K) (u : X.A.units + 64 < cLine) : OpR X (compareOp .Eq) (rEqD K) := h ▸ op_eqD u
structure Bq80 (K : PySem.W.Frag) (mg : Str → Option Value) (CB : Addr) (nst : Bool) : Prop where
  B : Bi mg
  FD : FaultDefs K mg
  cl : Cls K CB
  nk : NoAttr K CB "kept"
  nt : NoAttr K CB "tables"
  nl : NoAttr K CB "level"
  nb : NoAttr K CB "busy"
  nr : NoAttr K CB "rows"
  nst : ∃ u, Con K CB "NESTED" (.bl nst) u
  fault : ∃ f fd, Df K mg "find_fault" s_find_fault f fd ["value"]
/-- Board(..) of a right table -/
def sp_init80 (K : PySem.W.Frag) (ok : Addr → Prop) (CB : Addr) : Sp := fun vs H Q _ => ∃ (b dx : Addr) (tv : V) (t : List (List Int)), vs = [.ref b, tv] ∧ H b = some (.ins CB dx []) ∧ TT K H tv t ∧ Tk67 t ∧ (∀ p, H p = none → ok p) ∧
  ∀ (H' : Hp) (ra : Addr), Kb67 b H H' → H ra = none → Bd67 K ok CB H' b ⟨[], [tv], [t], 0, false, [], ra⟩ → Q .non H'
theorem ok_init80 {f CB : Addr} {nst : Bool} {fd : FuncData} {ok : Addr → Prop} (F : Fun K "__init__" "Board.__init__" s_Board_init f fd) (T : Bq80 K mg CB nst) : FnOk P w K mg base CX0 6 f fd ["self", "table"] (sp_init80 K ok CB) := by
  have B := T.B
  obtain ⟨f1, fd1, D1⟩ := T.fault
  have G1 : FnOk P w K mg base CX0 5 f1 fd1 ["value"] (sp_faultD K) := (ok_faultD (k := 1) D1.F T.FD)
  refine F.ok sc_Board_init (fun vs H Q E h => ?_) (fun cdv A outer s H vs Q E hr h => ?_)
  · obtain ⟨b, dx, tv, t, rfl, _⟩ := h
    rfl
  · obtain ⟨b, dx, tv, t, rfl, hb, hT, hK, hok, q⟩ := h
    have nd := sc_Board_init.nd
    refine ⟨_, pss_cons (ps_set (i := 2) nd rfl (.inl rfl) (pe_cl D1 G1 hr (pa_cons (pv 1) pa_nil)))
      (pss_cons (ps_if (pt_cmpR op_notN (pv 2) pe_non (nomark _)) pss_never pss_nil)
      (pss_cons (ps_fld (pv 0) (pe_tup pa_nil) rfl)
      (pss_cons (ps_fld (pv 0) (pe_tup (pa_cons (pv 1) pa_nil)) rfl)
      (pss_cons (ps_fld (pv 0) pe_int rfl)
      (pss_cons (ps_fld (pv 0) pe_bl rfl)
      (pss_one (ps_fld (pv 0) (pe_lst pa_nil) rfl))))))), ?_⟩
    refine ⟨tv, rfl, allOk, tv, tabD t, rfl, hT.da, fun H1 u s1 du => ?_⟩
    rw [faultD_tab67 hK] at du
    cases du
    refine nx_mk ?_
    refine ⟨.non, rfl, rfl, false, rfl, ?_⟩
    refine nx_mk ?_
    have hb1 := s1 _ _ hb
    refine ⟨Nat.zero_le _, fun ka hka => ?_⟩
    have sk := Sm.new (o := .tup []) hka
    have qk : SqT K (upd H1 ka (.tup [])) ka [] := SqT.of upd_same
    refine ⟨.ref b, rfl, b, CB, dx, _, rfl, sk _ _ hb1, T.cl, T.nk, (by show 0 < 1000; decide), ?_⟩
    generalize upd H1 ka (.tup []) = H2 at sk qk
    have b2 := sk _ _ hb1
    have T2 := hT.same (s1.trans sk)
    have s2 := s1.trans sk
    have k3 : Kb67 b H2 (upd H2 b (.ins CB dx (putF "kept" (.ref ka) []))) := Kb67.upd
    have b3 : (upd H2 b (.ins CB dx (putF "kept" (.ref ka) []))) b = some (.ins CB dx [(("kept" : Str), .ref ka)]) := upd_same
    generalize upd H2 b (.ins CB dx (putF "kept" (.ref ka) [])) = H3 at k3 b3
    have q3 := k3.sqT b2 qk
    have T3 := k3.tt b2 T2
    have s3 : Kb67 b H H3 := (Kb67.of s2).trans k3
    clear k3 T2 qk b2 sk hb1 s2
    refine nx_mk ?_
    refine ⟨tv, rfl, (by show 1 ≤ sizeLine; decide), fun ta hta => ?_⟩
    have st := Sm.new (o := .tup [tv]) hta
    have qt : SqT K (upd H3 ta (.tup [tv])) ta [tv] := SqT.of upd_same
    refine ⟨.ref b, rfl, b, CB, dx, _, rfl, st _ _ b3, T.cl, T.nt, (by show 1 < 1000; decide), ?_⟩
    rw [pI1]
    generalize upd H3 ta (.tup [tv]) = H4 at st qt
    have b4 := st _ _ b3
    have q4 := st.sqT q3
    have T4 := T3.same st
    have s4 := s3.trans (Kb67.of st)
    clear s3 T3 q3 b3 st
    refine nx_mk ?_
    refine ⟨.ref b, rfl, b, CB, dx, _, rfl, upd_same, T.cl, T.nl, (by show 2 < 1000; decide), ?_⟩
    rw [pI2]
    refine nx_mk ?_
    refine ⟨.ref b, rfl, b, CB, dx, _, rfl, upd_same, T.cl, T.nb, (by show 3 < 1000; decide), ?_⟩
    rw [pI3]
    refine nx_mk ?_
    have b5 : upd (upd (upd H4 b (.ins CB dx [(("kept" : Str), .ref ka), ("tables", .ref ta)])) b (.ins CB dx [(("kept" : Str), .ref ka), ("tables", .ref ta), ("level", .int 0)])) b (.ins CB dx [(("kept" : Str), .ref ka), ("tables", .ref ta), ("level", .int 0), ("busy", .bl false)]) b = some (.ins CB dx [(("kept" : Str), .ref ka), ("tables", .ref ta), ("level", .int 0), ("busy", .bl false)]) := upd_same
    have k5 : Kb67 b H4 (upd (upd (upd H4 b (.ins CB dx [(("kept" : Str), .ref ka), ("tables", .ref ta)])) b (.ins CB dx [(("kept" : Str), .ref ka), ("tables", .ref ta), ("level", .int 0)])) b (.ins CB dx [(("kept" : Str), .ref ka), ("tables", .ref ta), ("level", .int 0), ("busy", .bl false)])) := (Kb67.upd.trans Kb67.upd).trans Kb67.upd
    generalize upd (upd (upd H4 b (.ins CB dx [(("kept" : Str), .ref ka), ("tables", .ref ta)])) b (.ins CB dx [(("kept" : Str), .ref ka), ("tables", .ref ta), ("level", .int 0)])) b (.ins CB dx [(("kept" : Str), .ref ka), ("tables", .ref ta), ("level", .int 0), ("busy", .bl false)]) = H5 at b5 k5
    have q5 := k5.sqT b4 q4
    have qt5 := k5.sqT b4 qt
    have T5 := k5.tt b4 T4
    have s5 := s4.trans k5
    refine ⟨Nat.zero_le _, fun ra hra => ?_⟩
    have sr := Sm.new (o := .lst []) hra
    have qr : (upd H5 ra (.lst [])) ra = some (.lst []) := upd_same
    refine ⟨.ref b, rfl, b, CB, dx, _, rfl, sr _ _ b5, T.cl, T.nr, (by show 4 < 1000; decide), ?_⟩
    rw [pI4]
    generalize upd H5 ra (.lst []) = H6 at sr qr
    have b6 := sr _ _ b5
    have k7 : Kb67 b H6 (upd H6 b (.ins CB dx (bF67 (.ref ka) (.ref ta) 0 false (.ref ra)))) := Kb67.upd
    have b7 : (upd H6 b (.ins CB dx (bF67 (.ref ka) (.ref ta) 0 false (.ref ra)))) b = some (.ins CB dx (bF67 (.ref ka) (.ref ta) 0 false (.ref ra))) := upd_same
    generalize upd H6 b (.ins CB dx (bF67 (.ref ka) (.ref ta) 0 false (.ref ra))) = H7 at k7 b7
    have rb : ra ≠ b := (ne_of_none b5 hra).symm
    have hr0 : H ra = none := by
      cases e : H ra with
      | none => rfl
      | some o => rw [s5 _ _ e rb] at hra; cases hra
    refine q H7 ra (s5.trans ((Kb67.of sr).trans k7)) hr0 ⟨⟨dx, ka, ta, b7, k7.sqT b6 (sr.sqT q5), k7.sqT b6 (sr.sqT qt5), k7 _ _ qr rb, hok _ hr0⟩, Tb67.one (k7.tt b6 (T5.same sr)), fun u hu => ?_, rfl, ⟨Nat.zero_le _, Nat.zero_le _⟩⟩
    rw [List.mem_singleton.mp hu]
    exact hK
def sp_nested80 (K : PySem.W.Frag) (ok : Addr → Prop) (CB : Addr) : Sp := fun vs H Q _ => ∃ (b : Addr) (s : BS67), vs = [.ref b] ∧ Bd67 K ok CB H b s ∧ ∀ (H' : Hp) (v : V), Sm H H' → TT K H' v (jtab s.top) → Q v H'
theorem ok_nested80 {f f1 CB : Addr} {nst : Bool} {fd fd1 : FuncData} {ok : Addr → Prop} (F : Fun K "nested" "Board.nested" s_Board_nested f fd) (T : Bq80 K mg CB nst) (D1 : Df K mg "nested_below" s_nested_below f1 fd1 ["table"]) (TG : GridDefs K mg) : FnOk P w K mg base CX0 5 f fd ["self"] (sp_nested80 K ok CB) := by
  have G1 : FnOk P w K mg base CX0 4 f1 fd1 ["table"] (sp_below K) := ok_below D1.F TG
  refine F.ok sc_Board_nested (fun vs H Q E h => ?_) (fun cdv A outer s H vs Q E hr h => ?_)
  · obtain ⟨b, s, rfl, _⟩ := h
    rfl
  · obtain ⟨b, s, rfl, hB, q⟩ := h
    refine ⟨_, pss_one (ps_ret (pe_cl D1 G1 hr (pa_cons (pe_ix ix_tup (pe_fld (pv 0) rfl) (pe_un un_neg pe_int) (fun _ _ => rfl)) pa_nil))), ?_⟩
    obtain ⟨dx, ka, ta, hb, hk, ht, hra, hok⟩ := hB.ex
    have hlen := hB.len
    obtain ⟨tv, hat, hT⟩ := hB.tb.last (by omega)
    obtain ⟨hW, h1, h12⟩ := hB.topk
    exact ⟨.ref b, rfl, b, CB, dx, _, _, rfl, hb, T.cl, T.nt, bF_tables, _, rfl, ta, s.tvs, _, tv, rfl, rfl, ht, hat, tv, s.top, rfl, hT, hW, by omega, q⟩
/-- what isinstance(b, Board) asks of the class of b -/
structure IsB80 (K : PySem.W.Frag) (mg : Str → Option Value) (CB C0 : Addr) : Prop where
  g0 : mg "Board" = some (.ref C0)
  cl : Cls K CB
  ha : PySem.W.findIn K (.ref CB) "__class__" = some (some (.builtin "object.__class__"))
  hn : PySem.W.specialIn K (.builtin "object.__class__") "__get__" = some (some (.builtin "getset_descriptor.__get__"))
  ht : PySem.W.takesIn K (.builtin "object.__class__") = some true
  hm : PySem.W.mroIn K CB (.type "object") = some true
  ki : PySem.W.kitOne K (.ref CB) (.ref C0) = some true
def sp_eq80 (K : PySem.W.Frag) (ok : Addr → Prop) (CB CB' : Addr) (nst nst' : Bool) : Sp := fun vs H Q _ => ∃ (a b : Addr) (s t : BS67), vs = [.ref a, .ref b] ∧ Bd67 K ok CB H a s ∧ Bd67 K ok CB' H b t ∧ Q (.bl (decide (s.top = t.top) && (decide (s.cut = t.cut) && decide (nst = nst')))) H
theorem ok_eq80 {f CB CB' C0 : Addr} {nst nst' : Bool} {fd : FuncData} {ok : Addr → Prop} (F : Fun K "__eq__" "Board.__eq__" s_Board_eq f fd) (T : Bq80 K mg CB nst) (T' : Bq80 K mg CB' nst') (I : IsB80 K mg CB' C0) : FnOk P w K mg base CX0 2 f fd ["self", "other"] (sp_eq80 K ok CB CB' nst nst') := by
  have B := T.B
  obtain ⟨u1, c1⟩ := T.nst
  obtain ⟨u2, c2⟩ := T'.nst
  refine F.ok sc_Board_eq (fun vs H Q E h => ?_) (fun cdv A outer s H vs Q E hr h => ?_)
  · obtain ⟨a, b, s, t, rfl, _⟩ := h
    rfl
  · obtain ⟨a, b, s, t, rfl, hA, hB, q⟩ := h
    refine ⟨_, pss_cons (ps_if (pt_not (pt_val (pe_callB call_isi (by rfl) B.isinstance (by decide +kernel) (pa_cons (pv 1) (pa_cons (pe_glob (v := .ref C0) (by rfl) I.g0 rfl) pa_nil))))) (pss_one (ps_ret pe_bl)) pss_nil)
      (pss_one (ps_ret (pe_and (pe_cmpR (eqDK80 K rfl hr.units) (pe_ix ix_tup (pe_fld (pv 0) rfl) (pe_un un_neg pe_int) (fun _ _ => rfl)) (pe_ix ix_tup (pe_fld (pv 1) rfl) (pe_un un_neg pe_int) (fun _ _ => rfl)) (nomark _))
        (pe_and (pe_cmpR op_eq (pe_fld (pv 0) rfl) (pe_fld (pv 1) rfl) (nomark _)) (pe_one (pe_cmpR op_eq (pe_con (pv 0) rfl) (pe_con (pv 1) rfl) (nomark _))))))), ?_⟩
    obtain ⟨dx, ka, ta, ha, hka, hta, _, _⟩ := hA.ex
    obtain ⟨dy, kb, tb, hb, hkb, htb, _, _⟩ := hB.ex
    have l1 := hA.len
    have l2 := hB.len
    obtain ⟨tv1, at1, hT1⟩ := hA.tb.last (by omega)
    obtain ⟨tv2, at2, hT2⟩ := hB.tb.last (by omega)
    refine ⟨.ref b, rfl, .ref b, .ref C0, .ref CB', _, true, rfl, .own C0, .base (.ins hb I.cl I.ha I.hn I.ht I.hm), I.ki, true, rfl, ?_⟩
    refine nx_mk ?_
    refine ⟨.ref a, rfl, a, CB, dx, _, _, rfl, ha, T.cl, T.nt, bF_tables, _, rfl, ta, s.tvs, _, tv1, rfl, rfl, hta, at1, .ref b, rfl, b, CB', dy, _, _, rfl, hb, T'.cl, T'.nt, bF_tables, _, rfl, tb, t.tvs, _, tv2, rfl, rfl, htb, at2, tabD s.top, tabD t.top, hT1.dp, hT2.dp, lay_tab _, lay_tab _, _, rfl, ?_⟩
    rw [eqv_tabs]
    by_cases e1 : s.top = t.top
    rotate_left
    · rw [decide_eq_false e1] at q ⊢
      exact q
    rw [decide_eq_true e1] at q ⊢
    refine ⟨.ref a, rfl, a, CB, dx, _, _, rfl, ha, T.cl, T.nl, bF_level, .ref b, rfl, b, CB', dy, _, _, rfl, hb, T'.cl, T'.nl, bF_level, rfl, _, rfl, ?_⟩
    by_cases e2 : s.cut = t.cut
    rotate_left
    · rw [decide_eq_false e2] at q
      rw [decide_eq_false fun z => e2 (V.int.inj z)]
      exact q
    rw [decide_eq_true e2] at q
    rw [decide_eq_true (by rw [e2])]
    refine ⟨.ref a, rfl, a, CB, dx, _, _, u1, rfl, ha, T.cl, c1, bF_no (by decide +kernel), .ref b, rfl, b, CB', dy, _, _, u2, rfl, hb, T'.cl, c2, bF_no (by decide +kernel), rfl, ?_⟩
    have e3 : decide (V.bl nst = V.bl nst') = decide (nst = nst') := by cases nst <;> cases nst' <;> rfl
    rw [e3]
    exact q
def sp_len80 (K : PySem.W.Frag) (ok : Addr → Prop) (CB : Addr) : Sp := fun vs H Q _ => ∃ (b : Addr) (s : BS67), vs = [.ref b] ∧ Bd67 K ok CB H b s ∧ Q (.int (s.acts.length : Int)) H
theorem ok_len80 {f CB : Addr} {nst : Bool} {fd : FuncData} {ok : Addr → Prop} (F : Fun K "__len__" "Board.__len__" s_Board_len f fd) (T : Bq80 K mg CB nst) : FnOk P w K mg base CX0 1 f fd ["self"] (sp_len80 K ok CB) := by
  have B := T.B
  refine F.ok sc_Board_len (fun vs H Q E h => ?_) (fun cdv A outer s H vs Q E hr h => ?_)
  · obtain ⟨b, s, rfl, _⟩ := h
    rfl
  · obtain ⟨b, s, rfl, hB, q⟩ := h
    refine ⟨_, pss_one (ps_ret (pe_len B (pe_fld (pv 0) rfl))), ?_⟩
    obtain ⟨dx, ka, ta, hb, hk, ht, hra, hok⟩ := hB.ex
    exact ⟨.ref b, rfl, b, CB, dx, _, _, rfl, hb, T.cl, T.nk, bF_kept, ka, s.acts, rfl, .inr hk, q⟩
def sp_btab80 (K : PySem.W.Frag) (ok : Addr → Prop) (CB : Addr) : Sp := fun vs H Q _ => ∃ (b : Addr) (s : BS67), vs = [.ref b] ∧ Bd67 K ok CB H b s ∧ ∀ (v : V), TT K H v s.top → Q v H
theorem ok_btab80 {f CB : Addr} {nst : Bool} {fd : FuncData} {ok : Addr → Prop} (F : Fun K "table" "Board.table" s_Board_table f fd) (T : Bq80 K mg CB nst) : FnOk P w K mg base CX0 1 f fd ["self"] (sp_btab80 K ok CB) := by
  refine F.ok sc_Board_table (fun vs H Q E h => ?_) (fun cdv A outer s H vs Q E hr h => ?_)
  · obtain ⟨b, s, rfl, _⟩ := h
    rfl
  · obtain ⟨b, s, rfl, hB, q⟩ := h
    refine ⟨_, pss_one (ps_ret (pe_ix ix_tup (pe_fld (pv 0) rfl) (pe_un un_neg pe_int) (fun _ _ => rfl))), ?_⟩
    obtain ⟨dx, ka, ta, hb, hk, ht, hra, hok⟩ := hB.ex
    have hlen := hB.len
    obtain ⟨tv, hat, hT⟩ := hB.tb.last (by omega)
    exact ⟨.ref b, rfl, b, CB, dx, _, _, rfl, hb, T.cl, T.nt, bF_tables, _, rfl, ta, s.tvs, _, tv, rfl, rfl, ht, hat, q tv hT⟩
/-- a board is made -/
theorem make80 {ok : Addr → Prop} {CB x dx : Addr} {H : Hp} {tv : V} {t : List (List Int)} {Q : VK} {E : XK} (hx : H x = none) (hdx : H dx = none) (ne : dx ≠ x) (hT : TT K H tv t) (hK : Tk67 t) (hok : ∀ p, H p = none → ok p)
    (q : ∀ (H' : Hp) (ra : Addr), Sm H H' → Bd67 K ok CB H' x ⟨[], [tv], [t], 0, false, [], ra⟩ → Q .non H') : sp_init80 K ok CB (.ref x :: ([tv] ++ [])) (upd (upd H dx (.own x)) x (.ins CB dx [])) Q E := by
  have s1 : Sm H (upd H dx (.own x)) := Sm.new hdx
  have s2 : Sm (upd H dx (.own x)) (upd (upd H dx (.own x)) x (.ins CB dx [])) := Sm.new (by rw [upd_ne ne.symm]; exact hx)
  refine ⟨x, dx, tv, t, rfl, upd_same, (hT.same s1).same s2, hK, fun p hp => hok p ((s1.trans s2).free hp), fun H' ra k hra B => q H' ra (fun a o e => ?_) B⟩
  exact k a o (s2 _ _ (s1 _ _ e)) (ne_of_none e hx)
end
section
variable {P : Program} {w : World} {K : PySem.W.Frag} {mg : Str → Option Value} {base : Heap}
def bst80 (tv : V) (t : List (List Int)) (ra : Addr) : BS67 := ⟨[], [tv], [t], 0, false, [], ra⟩
def sp_read80 (K : PySem.W.Frag) (CB : Addr) : Sp := fun vs H Q _ => ∃ (s : Str) (t : List (List Int)), vs = [.ref CB, .str s] ∧ TL.tl s = ctab t ∧ WT t ∧ 1 ≤ t.length ∧ t.length ≤ 12 ∧ ∀ (H' : Hp) (b : Addr) (tv : V) (ra : Addr), Sm H H' → Bd67 K allOk CB H' b (bst80 tv t ra) → Q (.ref b) H'
theorem ok_read80 {f fI fP CB : Addr} {fd fdI fdP : FuncData} {nst : Bool} (F : Fun K "read" "Board.read" s_Board_read f fd) (T : Bq80 K mg CB nst) (hMk : Mk K CB fI) (hIF : Fun K "__init__" "Board.__init__" s_Board_init fI fdI) (hIb : Binds K fdI ["self", "table"] [])
    (D_parse_table : Df K mg "parse_table" s_parse_table fP fdP ["value"]) (G_parse_table : FnOk P w K mg base CX0 7 fP fdP ["value"] (sp_ptab78 K)) : FnOk P w K mg base CX0 8 f fd ["cls", "text"] (sp_read80 K CB) := by
  have G_init : FnOk P w K mg base CX0 6 fI fdI ["self", "table"] (sp_init80 K allOk CB) := ok_init80 hIF T
  refine F.ok sc_Board_read (fun vs H Q E h => ?_) (fun cdv A outer s0 H vs Q E hr h => ?_)
  · obtain ⟨s, t, rfl, _⟩ := h
    rfl
  · obtain ⟨s, t, rfl, hs, hW, h1, h12, q⟩ := h
    refine ⟨_, pss_one (ps_ret (pe_makeL hMk G_init (hr.mono (by decide)) (pv 0) hIb .nil pass0 (pa_cons (pe_cl D_parse_table G_parse_table hr (pa_cons (pv 1) pa_nil)) pa_nil))), ?_⟩
    refine ⟨.ref CB, rfl, rfl, .str s, rfl, s, t, rfl, hs, hW, h1, h12, fun H1 v s1 hv => fun b dx hb hdx ne => make80 hb hdx ne hv ⟨hW, h1, h12⟩ (fun _ _ => trivial) fun H2 ra s2 B2 => ⟨rfl, q H2 b v ra (s1.trans s2) B2⟩⟩
end
/-- C.m is a classmethod, its record at p -/
def cmB (K : PySem.W.Frag) (C : Addr) (m : Str) (p : Addr) : Bool := match PySem.W.findCls K (.ref C) (.type "type") m with
  | some (.get g a o t) => decide (g = .builtin "classmethod.__get__") && (decide (a = .ref p) && (decide (o = .none) && decide (t = .ref C)))
  | _ => false
theorem cmB_of {K : PySem.W.Frag} {C p : Addr} {m : Str} (h : cmB K C m p = true) : PySem.W.findCls K (.ref C) (.type "type") m = some (.get (.builtin "classmethod.__get__") (.ref p) .none (.ref C)) := by
  unfold cmB at h
  split at h
  · rename_i g a o t e
    simp only [Bool.and_eq_true, decide_eq_true_eq] at h
    obtain ⟨rfl, rfl, rfl, rfl⟩ := h
    exact e
  · cases h
def cmF (K : PySem.W.Frag) (p : Addr) : Addr := match PySem.W.recIn K p "classmethod" with
  | some (.ref f :: _) => f
  | _ => 0
def cmR (K : PySem.W.Frag) (p : Addr) : List Value := match PySem.W.recIn K p "classmethod" with
  | some (_ :: r) => r
  | _ => []
section
variable {P : Program} {w : World} {K : PySem.W.Frag} {mg : Str → Option Value} {base : Heap}
structure BrDefs (K : PySem.W.Frag) (mg : Str → Option Value) (CB C0 : Addr) (mc : Value) (pR fR : Addr) (nst : Bool) : Prop where
  T : Bq80 K mg CB nst
  G : GridDefs K mg
  I : IsB80 K mg CB C0
  gB : mg "Board" = some (.ref CB)
  rd : ClX.CRead K CB mc
  met : ClX.CMet K CB mc "read" pR fR
  read : ∃ fd, Fun K "read" "Board.read" s_Board_read fR fd ∧ Binds K fd ["cls", "text"] []
  init : ∃ f fd, Mk K CB f ∧ Fun K "__init__" "Board.__init__" s_Board_init f fd ∧ Binds K fd ["self", "table"] []
  table : ∃ f fd, Md K CB "table" "Board.table" s_Board_table f fd ["self"]
  nested : ∃ f fd, Md K CB "nested" "Board.nested" s_Board_nested f fd ["self"]
  len : ∃ f fd, Md K CB "__len__" "Board.__len__" s_Board_len f fd ["self"]
  eq : ∃ f fd, Md K CB "__eq__" "Board.__eq__" s_Board_eq f fd ["self", "other"]
  below : ∃ f fd, Df K mg "nested_below" s_nested_below f fd ["table"]
  ftab : ∃ f fd, Df K mg "format_table" s_format_table f fd ["table"]
  joined : ∃ f fd, Df K mg "joined" s_joined f fd ["numbers"]
  equal : ∃ f fd, Df K mg "_law_equal" s_L_equal f fd ["_law_one_here", "_law_other"]
set_option maxHeartbeats 8000000 in
theorem ok_bright80 {f fP CB C0 pR fR : Addr} {mc : Value} {fd fdP : FuncData} {nst : Bool} (F : Fun K "_law_board_right" "_law_board_right" s_L_board_right f fd) (T : BrDefs K mg CB C0 mc pR fR nst)
    (D_parse_table : Df K mg "parse_table" s_parse_table fP fdP ["value"]) (G_parse_table : FnOk P w K mg base CX0 7 fP fdP ["value"] (sp_ptab78 K)) : FnOk P w K mg base CX0 17 f fd ["_law_table_here"] (sp_tright80 K) := by
  have B := T.T.B
  obtain ⟨fdR, hRF, hRb⟩ := T.read
  obtain ⟨fI, fdI, hMk, hIF, hIb⟩ := T.init
  obtain ⟨f1, fd1, D_table⟩ := T.table
  obtain ⟨f2, fd2, D_nested⟩ := T.nested
  obtain ⟨f3, fd3, D_len⟩ := T.len
  obtain ⟨f4, fd4, D_eq⟩ := T.eq
  obtain ⟨f5, fd5, D_below⟩ := T.below
  obtain ⟨f6, fd6, D_format_table⟩ := T.ftab
  obtain ⟨f7, fd7, D7⟩ := T.joined
  obtain ⟨f8, fd8, D_L_equal⟩ := T.equal
  have G_read0 : FnOk P w K mg base CX0 8 fR fdR ["cls", "text"] (sp_read80 K CB) := ok_read80 hRF T.T hMk hIF hIb D_parse_table G_parse_table
  have G_read := FnOk.raw G_read0 hRb .nil
  have G_init : FnOk P w K mg base CX0 6 fI fdI ["self", "table"] (sp_init80 K allOk CB) := ok_init80 hIF T.T
  have G_table : FnOk P w K mg base CX0 16 f1 fd1 ["self"] (sp_btab80 K allOk CB) := (ok_btab80 D_table.F T.T).mono (by decide)
  have G_nested : FnOk P w K mg base CX0 16 f2 fd2 ["self"] (sp_nested80 K allOk CB) := (ok_nested80 D_nested.F T.T D_below T.G).mono (by decide)
  have G_len : FnOk P w K mg base CX0 1 f3 fd3 ["self"] (sp_len80 K allOk CB) := ok_len80 D_len.F T.T
  have G_eq : FnOk P w K mg base CX0 16 f4 fd4 ["self", "other"] (sp_eq80 K allOk CB CB nst nst) := (ok_eq80 D_eq.F T.T T.T T.I).mono (by decide)
  have G_below : FnOk P w K mg base CX0 16 f5 fd5 ["table"] (sp_below K) := (ok_below D_below.F T.G).mono (by decide)
  have G_format_table : FnOk P w K mg base CX0 16 f6 fd6 ["table"] (sp_ftab78 K) := ok_ftab78 (k := 14) D_format_table.F D7 B
  have G_L_equal : FnOk P w K mg base CX0 16 f8 fd8 ["_law_one_here", "_law_other"] (sp_equal K 15) := ok_equal D_L_equal B 15
  refine F.ok sc_L_board_right (fun vs H Q E h => ?_) (fun cdv A outer s H vs Q E hr h => ?_)
  · obtain ⟨tv, t, rfl, _⟩ := h
    rfl
  · obtain ⟨tv, t, rfl, hT, hW, h1, h12, q⟩ := h
    have nd := sc_L_board_right.nd
    refine ⟨_, (pss_cons (ps_set (i := 1) nd rfl (.inl rfl) (ClX.pe_cmeth (pe_glob (v := .ref CB) rfl T.gB rfl) T.rd T.met G_read (hr.mono (by decide)) pass0 (pa_cons (pe_cl D_format_table G_format_table hr (pa_cons (pv 0) pa_nil)) pa_nil)))
      (pss_cons (ps_if (PW.pt (pw_or (pt_not (pt_val (pe_cl D_L_equal G_L_equal hr (pa_cons (pe_m0 D_table T.T.cl G_table hr (pv 1)) (pa_cons (pv 0) pa_nil)))))
        (pw_or (pt_not (pt_cmpR (op_eqO D_eq G_eq hr) (pv 1) (pe_make hMk G_init (hr.mono (by decide)) rfl T.gB hIb .nil pass0 (pa_cons (pv 0) pa_nil)) (nomark _)))
        (pw_or1 (pt_cmpR op_ne (pe_callB (call_lenO D_len G_len (hr.mono (by decide))) (by rfl) B.len (by decide +kernel) (pa_cons (pv 1) pa_nil)) pe_int (nomark _))))))
      (pss_one (ps_ret pe_bl))
      pss_nil)
      (pss_one (ps_ret (pe_cmpR op_eq (pe_cl D_format_table G_format_table hr (pa_cons (pe_m0 D_nested T.T.cl G_nested hr (pv 1)) pa_nil)) (pe_cl D_format_table G_format_table hr (pa_cons (pe_cl D_below G_below hr (pa_cons (pv 0) pa_nil)) pa_nil)) (nomark _)))))), ?_⟩
    have jW := jtab_wt hW
    have jl := jtab_len t
    refine ⟨rfl, tv, rfl, tv, t, rfl, hT, hW, h1, by omega, fun H1 x s1 hx => ?_⟩
    refine ⟨x, t, rfl, hx, hW, h1, h12, fun H2 b bv ra s2 B2 => ?_⟩
    have T2 := (hT.same s1).same s2
    refine nx_mk ?_
    obtain ⟨dx, ka, ta, hb, _, _, _, _⟩ := B2.ex
    refine ⟨.ref b, rfl, b, dx, _, rfl, hb, bF_no (by decide +kernel), b, _, rfl, B2, fun v hv => ?_⟩
    have hv : TT K H2 v t := hv
    refine ⟨tv, rfl, v, tv, tabD t, rfl, hv.dp, T2.dp, okD_tab hW (by omega), fun H3 s3 => ?_⟩
    refine ⟨_, rfl, ?_⟩
    refine iteF ?_
    refine ⟨.ref b, rfl, tv, rfl, fun b' dx' hb' hdx' ne => make80 hb' hdx' ne (T2.same s3) ⟨hW, h1, h12⟩ (fun _ _ => trivial) fun H4 ra' s4 B4 => ⟨rfl, ?_⟩⟩
    have s34 := s3.trans s4
    have B24 := B2.same s34
    obtain ⟨dy, ka', ta', hb4, _, _, _, _⟩ := B4.ex
    refine ⟨b, b', dx, dy, _, _, rfl, rfl, s34 _ _ hb, hb4, b, b', _, _, rfl, B24, B4, ?_⟩
    refine ⟨_, rfl, ?_⟩
    rw [show decide ((bst80 bv t ra).top = BS67.top ⟨[], [tv], [t], 0, false, [], ra'⟩) = true from decide_eq_true rfl, show decide ((bst80 bv t ra).cut = BS67.cut ⟨[], [tv], [t], 0, false, [], ra'⟩) = true from decide_eq_true rfl, decide_eq_true (rfl : nst = nst)]
    refine ⟨true, rfl, ?_⟩
    show _
    refine ⟨.ref b, rfl, b, dx, _, rfl, s34 _ _ hb, b, _, rfl, B24, 0, rfl, ⟨by decide, by decide⟩, rfl, _, rfl, ?_⟩
    refine iteF ?_
    show _
    refine nx_mk ?_
    refine ⟨.ref b, rfl, b, dx, _, rfl, s34 _ _ hb, bF_no (by decide +kernel), b, _, rfl, B24, fun H5 u s5 hu => ?_⟩
    have hu : TT K H5 u (jtab t) := hu
    refine ⟨u, jtab t, rfl, hu, jW, by omega, by omega, fun H6 x1 s6 hx1 => ?_⟩
    refine ⟨tv, rfl, tv, t, rfl, T2.same (s34.trans (s5.trans s6)), hW, by omega, fun H7 u2 s7 hu2 => ?_⟩
    refine ⟨u2, jtab t, rfl, hu2, jW, by omega, by omega, fun H8 x2 s8 hx2 => ?_⟩
    refine ⟨rfl, ?_⟩
    rw [TL.ext_tl (hx1.trans hx2.symm), decide_eq_true rfl]
    exact q H8 (s1.trans (s2.trans (s34.trans (s5.trans (s6.trans (s7.trans s8))))))
end
section
variable {P : Program} {w : World} {K : PySem.W.Frag} {mg : Str → Option Value} {base : Heap}
structure LawDefs (K : PySem.W.Frag) (mg : Str → Option Value) : Prop where
  L : LawDefs80 K mg
  b : ∃ CB C0 mc pR fR, BrDefs K mg CB C0 mc pR fR false
  br : ∃ f fd, Df K mg "_law_board_right" s_L_board_right f fd ["_law_table_here"]
theorem ok_law {f : Addr} {fd : FuncData} (F : Fun K "law" "law" s_law f fd) (T : LawDefs K mg) : FnOk P w K mg base CX0 18 f fd ["_law_script"] (sp_law K) := by
  have B := T.L.D.B
  obtain ⟨CB, C0, mc, pR, fR, b⟩ := T.b
  obtain ⟨fB, fdB, DB⟩ := T.br
  obtain ⟨f13, fd13, D13⟩ := T.L.cnt
  obtain ⟨f14, fd14, D14⟩ := T.L.rowin
  obtain ⟨f15, fd15, D15⟩ := T.L.number
  obtain ⟨f16, fd16, D16⟩ := T.L.plines
  obtain ⟨f17, fd17, D_parse_table⟩ := T.L.ptab
  obtain ⟨fW, fdW, DW⟩ := T.L.R.whole
  obtain ⟨fL, fdL, DL⟩ := T.L.R.level
  have G_parse_table : FnOk P w K mg base CX0 7 f17 fd17 ["value"] (sp_ptab78 K) := (ok_ptab78 D_parse_table.F D16 D13 D14 D15 DL DW T.L.gD T.L.R.gI T.L.R.gL B).mono (by decide)
  exact ok_law80 F T.L DB (ok_bright80 DB.F b D_parse_table G_parse_table)
end
/-! ### what the top has written -/
theorem df_mk {K : PySem.W.Frag} {h : Heap} {mg : Str → Option Value} {x : Str} {st : Stmt} {f : Addr} {od an : Option Addr} {sl : Array (Option Value)} {oc kV dc pm cd ct : Value} {ps : List Str} (X : K.In h) (G : h.Ns mainGlobals mg)
    (a : PySem.W.nsIn K mainGlobals x = some (some (.ref f))) (l : K.lookup f = some ⟨oc, od, .func (PySem.W.fnOf x x (defArgs st) (defBody st) (defScope st) .none kV dc pm an cd ct), sl⟩) (c : PySem.W.codeIn K cd x = true) (k : PySem.W.keepIn K (.ref f) = true)
    (b : ∀ (kV doc pm : Value) (an : Option Addr) (cdv ct : Value) (us : List Value), us.length = ps.length → bindArgs (PySem.W.fnOf x x (defArgs st) (defBody st) (defScope st) .none kV doc pm an cdv ct) ⟨us, []⟩ = pure (ps.zip us)) :
    Df K mg x st f (PySem.W.fnOf x x (defArgs st) (defBody st) (defScope st) .none kV dc pm an cd ct) ps := ⟨fun_mk l c k, (fun_mk l c k).binds b, PySem.W.mg_of X G a⟩
theorem all_mk {l : PySem.W.OpenLaw} {w : World} {K : PySem.W.Frag} {h : Heap} {mg : Str → Option Value} {fa : Addr} (X : K.In h) (G : h.Ns mainGlobals mg) (hfa : mg "law" = some (.ref fa))
    {f1 : Addr} {od1 an1 : Option Addr} {sl1 : Array (Option Value)} {oc1 kV1 dc1 pm1 cd1 ct1 : Value} (a1 : PySem.W.nsIn K mainGlobals "is_whole" = some (some (.ref f1))) (l1 : K.lookup f1 = some ⟨oc1, od1, .func (PySem.W.fnOf "is_whole" "is_whole" (defArgs s_is_whole) (defBody s_is_whole) (defScope s_is_whole) .none kV1 dc1 pm1 an1 cd1 ct1), sl1⟩) (c1 : PySem.W.codeIn K cd1 "is_whole" = true) (k1 : PySem.W.keepIn K (.ref f1) = true)
    {f2 : Addr} {od2 an2 : Option Addr} {sl2 : Array (Option Value)} {oc2 kV2 dc2 pm2 cd2 ct2 : Value} (a2 : PySem.W.nsIn K mainGlobals "is_level" = some (some (.ref f2))) (l2 : K.lookup f2 = some ⟨oc2, od2, .func (PySem.W.fnOf "is_level" "is_level" (defArgs s_is_level) (defBody s_is_level) (defScope s_is_level) .none kV2 dc2 pm2 an2 cd2 ct2), sl2⟩) (c2 : PySem.W.codeIn K cd2 "is_level" = true) (k2 : PySem.W.keepIn K (.ref f2) = true)
    {f3 : Addr} {od3 an3 : Option Addr} {sl3 : Array (Option Value)} {oc3 kV3 dc3 pm3 cd3 ct3 : Value} (a3 : PySem.W.nsIn K mainGlobals "is_item" = some (some (.ref f3))) (l3 : K.lookup f3 = some ⟨oc3, od3, .func (PySem.W.fnOf "is_item" "is_item" (defArgs s_is_item) (defBody s_is_item) (defScope s_is_item) .none kV3 dc3 pm3 an3 cd3 ct3), sl3⟩) (c3 : PySem.W.codeIn K cd3 "is_item" = true) (k3 : PySem.W.keepIn K (.ref f3) = true)
    {f4 : Addr} {od4 an4 : Option Addr} {sl4 : Array (Option Value)} {oc4 kV4 dc4 pm4 cd4 ct4 : Value} (a4 : PySem.W.nsIn K mainGlobals "find_row_fault" = some (some (.ref f4))) (l4 : K.lookup f4 = some ⟨oc4, od4, .func (PySem.W.fnOf "find_row_fault" "find_row_fault" (defArgs s_find_row_fault) (defBody s_find_row_fault) (defScope s_find_row_fault) .none kV4 dc4 pm4 an4 cd4 ct4), sl4⟩) (c4 : PySem.W.codeIn K cd4 "find_row_fault" = true) (k4 : PySem.W.keepIn K (.ref f4) = true)
    {f5 : Addr} {od5 an5 : Option Addr} {sl5 : Array (Option Value)} {oc5 kV5 dc5 pm5 cd5 ct5 : Value} (a5 : PySem.W.nsIn K mainGlobals "find_fault" = some (some (.ref f5))) (l5 : K.lookup f5 = some ⟨oc5, od5, .func (PySem.W.fnOf "find_fault" "find_fault" (defArgs s_find_fault) (defBody s_find_fault) (defScope s_find_fault) .none kV5 dc5 pm5 an5 cd5 ct5), sl5⟩) (c5 : PySem.W.codeIn K cd5 "find_fault" = true) (k5 : PySem.W.keepIn K (.ref f5) = true)
    {f6 : Addr} {od6 an6 : Option Addr} {sl6 : Array (Option Value)} {oc6 kV6 dc6 pm6 cd6 ct6 : Value} (a6 : PySem.W.nsIn K mainGlobals "level_between" = some (some (.ref f6))) (l6 : K.lookup f6 = some ⟨oc6, od6, .func (PySem.W.fnOf "level_between" "level_between" (defArgs s_level_between) (defBody s_level_between) (defScope s_level_between) .none kV6 dc6 pm6 an6 cd6 ct6), sl6⟩) (c6 : PySem.W.codeIn K cd6 "level_between" = true) (k6 : PySem.W.keepIn K (.ref f6) = true)
    {f7 : Addr} {od7 an7 : Option Addr} {sl7 : Array (Option Value)} {oc7 kV7 dc7 pm7 cd7 ct7 : Value} (a7 : PySem.W.nsIn K mainGlobals "levels_of" = some (some (.ref f7))) (l7 : K.lookup f7 = some ⟨oc7, od7, .func (PySem.W.fnOf "levels_of" "levels_of" (defArgs s_levels_of) (defBody s_levels_of) (defScope s_levels_of) .none kV7 dc7 pm7 an7 cd7 ct7), sl7⟩) (c7 : PySem.W.codeIn K cd7 "levels_of" = true) (k7 : PySem.W.keepIn K (.ref f7) = true)
    {f8 : Addr} {od8 an8 : Option Addr} {sl8 : Array (Option Value)} {oc8 kV8 dc8 pm8 cd8 ct8 : Value} (a8 : PySem.W.nsIn K mainGlobals "pairs_of" = some (some (.ref f8))) (l8 : K.lookup f8 = some ⟨oc8, od8, .func (PySem.W.fnOf "pairs_of" "pairs_of" (defArgs s_pairs_of) (defBody s_pairs_of) (defScope s_pairs_of) .none kV8 dc8 pm8 an8 cd8 ct8), sl8⟩) (c8 : PySem.W.codeIn K cd8 "pairs_of" = true) (k8 : PySem.W.keepIn K (.ref f8) = true)
    {f9 : Addr} {od9 an9 : Option Addr} {sl9 : Array (Option Value)} {oc9 kV9 dc9 pm9 cd9 ct9 : Value} (a9 : PySem.W.nsIn K mainGlobals "number_of" = some (some (.ref f9))) (l9 : K.lookup f9 = some ⟨oc9, od9, .func (PySem.W.fnOf "number_of" "number_of" (defArgs s_number_of) (defBody s_number_of) (defScope s_number_of) .none kV9 dc9 pm9 an9 cd9 ct9), sl9⟩) (c9 : PySem.W.codeIn K cd9 "number_of" = true) (k9 : PySem.W.keepIn K (.ref f9) = true)
    {f10 : Addr} {od10 an10 : Option Addr} {sl10 : Array (Option Value)} {oc10 kV10 dc10 pm10 cd10 ct10 : Value} (a10 : PySem.W.nsIn K mainGlobals "joined" = some (some (.ref f10))) (l10 : K.lookup f10 = some ⟨oc10, od10, .func (PySem.W.fnOf "joined" "joined" (defArgs s_joined) (defBody s_joined) (defScope s_joined) .none kV10 dc10 pm10 an10 cd10 ct10), sl10⟩) (c10 : PySem.W.codeIn K cd10 "joined" = true) (k10 : PySem.W.keepIn K (.ref f10) = true)
    {f11 : Addr} {od11 an11 : Option Addr} {sl11 : Array (Option Value)} {oc11 kV11 dc11 pm11 cd11 ct11 : Value} (a11 : PySem.W.nsIn K mainGlobals "format_table" = some (some (.ref f11))) (l11 : K.lookup f11 = some ⟨oc11, od11, .func (PySem.W.fnOf "format_table" "format_table" (defArgs s_format_table) (defBody s_format_table) (defScope s_format_table) .none kV11 dc11 pm11 an11 cd11 ct11), sl11⟩) (c11 : PySem.W.codeIn K cd11 "format_table" = true) (k11 : PySem.W.keepIn K (.ref f11) = true)
    {f12 : Addr} {od12 an12 : Option Addr} {sl12 : Array (Option Value)} {oc12 kV12 dc12 pm12 cd12 ct12 : Value} (a12 : PySem.W.nsIn K mainGlobals "format_tree" = some (some (.ref f12))) (l12 : K.lookup f12 = some ⟨oc12, od12, .func (PySem.W.fnOf "format_tree" "format_tree" (defArgs s_format_tree) (defBody s_format_tree) (defScope s_format_tree) .none kV12 dc12 pm12 an12 cd12 ct12), sl12⟩) (c12 : PySem.W.codeIn K cd12 "format_tree" = true) (k12 : PySem.W.keepIn K (.ref f12) = true)
    {f13 : Addr} {od13 an13 : Option Addr} {sl13 : Array (Option Value)} {oc13 kV13 dc13 pm13 cd13 ct13 : Value} (a13 : PySem.W.nsIn K mainGlobals "count_in" = some (some (.ref f13))) (l13 : K.lookup f13 = some ⟨oc13, od13, .func (PySem.W.fnOf "count_in" "count_in" (defArgs s_count_in) (defBody s_count_in) (defScope s_count_in) .none kV13 dc13 pm13 an13 cd13 ct13), sl13⟩) (c13 : PySem.W.codeIn K cd13 "count_in" = true) (k13 : PySem.W.keepIn K (.ref f13) = true)
    {f14 : Addr} {od14 an14 : Option Addr} {sl14 : Array (Option Value)} {oc14 kV14 dc14 pm14 cd14 ct14 : Value} (a14 : PySem.W.nsIn K mainGlobals "row_in" = some (some (.ref f14))) (l14 : K.lookup f14 = some ⟨oc14, od14, .func (PySem.W.fnOf "row_in" "row_in" (defArgs s_row_in) (defBody s_row_in) (defScope s_row_in) .none kV14 dc14 pm14 an14 cd14 ct14), sl14⟩) (c14 : PySem.W.codeIn K cd14 "row_in" = true) (k14 : PySem.W.keepIn K (.ref f14) = true)
    {f15 : Addr} {od15 an15 : Option Addr} {sl15 : Array (Option Value)} {oc15 kV15 dc15 pm15 cd15 ct15 : Value} (a15 : PySem.W.nsIn K mainGlobals "parse_lines" = some (some (.ref f15))) (l15 : K.lookup f15 = some ⟨oc15, od15, .func (PySem.W.fnOf "parse_lines" "parse_lines" (defArgs s_parse_lines) (defBody s_parse_lines) (defScope s_parse_lines) .none kV15 dc15 pm15 an15 cd15 ct15), sl15⟩) (c15 : PySem.W.codeIn K cd15 "parse_lines" = true) (k15 : PySem.W.keepIn K (.ref f15) = true)
    {f16 : Addr} {od16 an16 : Option Addr} {sl16 : Array (Option Value)} {oc16 kV16 dc16 pm16 cd16 ct16 : Value} (a16 : PySem.W.nsIn K mainGlobals "parse_table" = some (some (.ref f16))) (l16 : K.lookup f16 = some ⟨oc16, od16, .func (PySem.W.fnOf "parse_table" "parse_table" (defArgs s_parse_table) (defBody s_parse_table) (defScope s_parse_table) .none kV16 dc16 pm16 an16 cd16 ct16), sl16⟩) (c16 : PySem.W.codeIn K cd16 "parse_table" = true) (k16 : PySem.W.keepIn K (.ref f16) = true)
    {f17 : Addr} {od17 an17 : Option Addr} {sl17 : Array (Option Value)} {oc17 kV17 dc17 pm17 cd17 ct17 : Value} (a17 : PySem.W.nsIn K mainGlobals "level_grid" = some (some (.ref f17))) (l17 : K.lookup f17 = some ⟨oc17, od17, .func (PySem.W.fnOf "level_grid" "level_grid" (defArgs s_level_grid) (defBody s_level_grid) (defScope s_level_grid) .none kV17 dc17 pm17 an17 cd17 ct17), sl17⟩) (c17 : PySem.W.codeIn K cd17 "level_grid" = true) (k17 : PySem.W.keepIn K (.ref f17) = true)
    {f18 : Addr} {od18 an18 : Option Addr} {sl18 : Array (Option Value)} {oc18 kV18 dc18 pm18 cd18 ct18 : Value} (a18 : PySem.W.nsIn K mainGlobals "lowest_grid" = some (some (.ref f18))) (l18 : K.lookup f18 = some ⟨oc18, od18, .func (PySem.W.fnOf "lowest_grid" "lowest_grid" (defArgs s_lowest_grid) (defBody s_lowest_grid) (defScope s_lowest_grid) .none kV18 dc18 pm18 an18 cd18 ct18), sl18⟩) (c18 : PySem.W.codeIn K cd18 "lowest_grid" = true) (k18 : PySem.W.keepIn K (.ref f18) = true)
    {f19 : Addr} {od19 an19 : Option Addr} {sl19 : Array (Option Value)} {oc19 kV19 dc19 pm19 cd19 ct19 : Value} (a19 : PySem.W.nsIn K mainGlobals "join_grid" = some (some (.ref f19))) (l19 : K.lookup f19 = some ⟨oc19, od19, .func (PySem.W.fnOf "join_grid" "join_grid" (defArgs s_join_grid) (defBody s_join_grid) (defScope s_join_grid) .none kV19 dc19 pm19 an19 cd19 ct19), sl19⟩) (c19 : PySem.W.codeIn K cd19 "join_grid" = true) (k19 : PySem.W.keepIn K (.ref f19) = true)
    {f20 : Addr} {od20 an20 : Option Addr} {sl20 : Array (Option Value)} {oc20 kV20 dc20 pm20 cd20 ct20 : Value} (a20 : PySem.W.nsIn K mainGlobals "nested_below" = some (some (.ref f20))) (l20 : K.lookup f20 = some ⟨oc20, od20, .func (PySem.W.fnOf "nested_below" "nested_below" (defArgs s_nested_below) (defBody s_nested_below) (defScope s_nested_below) .none kV20 dc20 pm20 an20 cd20 ct20), sl20⟩) (c20 : PySem.W.codeIn K cd20 "nested_below" = true) (k20 : PySem.W.keepIn K (.ref f20) = true)
    {f21 : Addr} {od21 an21 : Option Addr} {sl21 : Array (Option Value)} {oc21 kV21 dc21 pm21 cd21 ct21 : Value} (a21 : PySem.W.nsIn K mainGlobals "is_path" = some (some (.ref f21))) (l21 : K.lookup f21 = some ⟨oc21, od21, .func (PySem.W.fnOf "is_path" "is_path" (defArgs s_is_path) (defBody s_is_path) (defScope s_is_path) .none kV21 dc21 pm21 an21 cd21 ct21), sl21⟩) (c21 : PySem.W.codeIn K cd21 "is_path" = true) (k21 : PySem.W.keepIn K (.ref f21) = true)
    {f22 : Addr} {od22 an22 : Option Addr} {sl22 : Array (Option Value)} {oc22 kV22 dc22 pm22 cd22 ct22 : Value} (a22 : PySem.W.nsIn K mainGlobals "group_of" = some (some (.ref f22))) (l22 : K.lookup f22 = some ⟨oc22, od22, .func (PySem.W.fnOf "group_of" "group_of" (defArgs s_group_of) (defBody s_group_of) (defScope s_group_of) .none kV22 dc22 pm22 an22 cd22 ct22), sl22⟩) (c22 : PySem.W.codeIn K cd22 "group_of" = true) (k22 : PySem.W.keepIn K (.ref f22) = true)
    {f23 : Addr} {od23 an23 : Option Addr} {sl23 : Array (Option Value)} {oc23 kV23 dc23 pm23 cd23 ct23 : Value} (a23 : PySem.W.nsIn K mainGlobals "all_groups" = some (some (.ref f23))) (l23 : K.lookup f23 = some ⟨oc23, od23, .func (PySem.W.fnOf "all_groups" "all_groups" (defArgs s_all_groups) (defBody s_all_groups) (defScope s_all_groups) .none kV23 dc23 pm23 an23 cd23 ct23), sl23⟩) (c23 : PySem.W.codeIn K cd23 "all_groups" = true) (k23 : PySem.W.keepIn K (.ref f23) = true)
    {f24 : Addr} {od24 an24 : Option Addr} {sl24 : Array (Option Value)} {oc24 kV24 dc24 pm24 cd24 ct24 : Value} (a24 : PySem.W.nsIn K mainGlobals "steps_of" = some (some (.ref f24))) (l24 : K.lookup f24 = some ⟨oc24, od24, .func (PySem.W.fnOf "steps_of" "steps_of" (defArgs s_steps_of) (defBody s_steps_of) (defScope s_steps_of) .none kV24 dc24 pm24 an24 cd24 ct24), sl24⟩) (c24 : PySem.W.codeIn K cd24 "steps_of" = true) (k24 : PySem.W.keepIn K (.ref f24) = true)
    {f25 : Addr} {od25 an25 : Option Addr} {sl25 : Array (Option Value)} {oc25 kV25 dc25 pm25 cd25 ct25 : Value} (a25 : PySem.W.nsIn K mainGlobals "groups_at" = some (some (.ref f25))) (l25 : K.lookup f25 = some ⟨oc25, od25, .func (PySem.W.fnOf "groups_at" "groups_at" (defArgs s_groups_at) (defBody s_groups_at) (defScope s_groups_at) .none kV25 dc25 pm25 an25 cd25 ct25), sl25⟩) (c25 : PySem.W.codeIn K cd25 "groups_at" = true) (k25 : PySem.W.keepIn K (.ref f25) = true)
    {f26 : Addr} {od26 an26 : Option Addr} {sl26 : Array (Option Value)} {oc26 kV26 dc26 pm26 cd26 ct26 : Value} (a26 : PySem.W.nsIn K mainGlobals "clusters_of" = some (some (.ref f26))) (l26 : K.lookup f26 = some ⟨oc26, od26, .func (PySem.W.fnOf "clusters_of" "clusters_of" (defArgs s_clusters_of) (defBody s_clusters_of) (defScope s_clusters_of) .none kV26 dc26 pm26 an26 cd26 ct26), sl26⟩) (c26 : PySem.W.codeIn K cd26 "clusters_of" = true) (k26 : PySem.W.keepIn K (.ref f26) = true)
    {f27 : Addr} {od27 an27 : Option Addr} {sl27 : Array (Option Value)} {oc27 kV27 dc27 pm27 cd27 ct27 : Value} (a27 : PySem.W.nsIn K mainGlobals "is_cluster" = some (some (.ref f27))) (l27 : K.lookup f27 = some ⟨oc27, od27, .func (PySem.W.fnOf "is_cluster" "is_cluster" (defArgs s_is_cluster) (defBody s_is_cluster) (defScope s_is_cluster) .none kV27 dc27 pm27 an27 cd27 ct27), sl27⟩) (c27 : PySem.W.codeIn K cd27 "is_cluster" = true) (k27 : PySem.W.keepIn K (.ref f27) = true)
    {f28 : Addr} {od28 an28 : Option Addr} {sl28 : Array (Option Value)} {oc28 kV28 dc28 pm28 cd28 ct28 : Value} (a28 : PySem.W.nsIn K mainGlobals "joins_of" = some (some (.ref f28))) (l28 : K.lookup f28 = some ⟨oc28, od28, .func (PySem.W.fnOf "joins_of" "joins_of" (defArgs s_joins_of) (defBody s_joins_of) (defScope s_joins_of) .none kV28 dc28 pm28 an28 cd28 ct28), sl28⟩) (c28 : PySem.W.codeIn K cd28 "joins_of" = true) (k28 : PySem.W.keepIn K (.ref f28) = true)
    {f29 : Addr} {od29 an29 : Option Addr} {sl29 : Array (Option Value)} {oc29 kV29 dc29 pm29 cd29 ct29 : Value} (a29 : PySem.W.nsIn K mainGlobals "picked" = some (some (.ref f29))) (l29 : K.lookup f29 = some ⟨oc29, od29, .func (PySem.W.fnOf "picked" "picked" (defArgs s_picked) (defBody s_picked) (defScope s_picked) .none kV29 dc29 pm29 an29 cd29 ct29), sl29⟩) (c29 : PySem.W.codeIn K cd29 "picked" = true) (k29 : PySem.W.keepIn K (.ref f29) = true)
    {f30 : Addr} {od30 an30 : Option Addr} {sl30 : Array (Option Value)} {oc30 kV30 dc30 pm30 cd30 ct30 : Value} (a30 : PySem.W.nsIn K mainGlobals "check_cut" = some (some (.ref f30))) (l30 : K.lookup f30 = some ⟨oc30, od30, .func (PySem.W.fnOf "check_cut" "check_cut" (defArgs s_check_cut) (defBody s_check_cut) (defScope s_check_cut) .none kV30 dc30 pm30 an30 cd30 ct30), sl30⟩) (c30 : PySem.W.codeIn K cd30 "check_cut" = true) (k30 : PySem.W.keepIn K (.ref f30) = true)
    {f31 : Addr} {od31 an31 : Option Addr} {sl31 : Array (Option Value)} {oc31 kV31 dc31 pm31 cd31 ct31 : Value} (a31 : PySem.W.nsIn K mainGlobals "widest_pair" = some (some (.ref f31))) (l31 : K.lookup f31 = some ⟨oc31, od31, .func (PySem.W.fnOf "widest_pair" "widest_pair" (defArgs s_widest_pair) (defBody s_widest_pair) (defScope s_widest_pair) .none kV31 dc31 pm31 an31 cd31 ct31), sl31⟩) (c31 : PySem.W.codeIn K cd31 "widest_pair" = true) (k31 : PySem.W.keepIn K (.ref f31) = true)
    {f32 : Addr} {od32 an32 : Option Addr} {sl32 : Array (Option Value)} {oc32 kV32 dc32 pm32 cd32 ct32 : Value} (a32 : PySem.W.nsIn K mainGlobals "greatest_gap" = some (some (.ref f32))) (l32 : K.lookup f32 = some ⟨oc32, od32, .func (PySem.W.fnOf "greatest_gap" "greatest_gap" (defArgs s_greatest_gap) (defBody s_greatest_gap) (defScope s_greatest_gap) .none kV32 dc32 pm32 an32 cd32 ct32), sl32⟩) (c32 : PySem.W.codeIn K cd32 "greatest_gap" = true) (k32 : PySem.W.keepIn K (.ref f32) = true)
    {f33 : Addr} {od33 an33 : Option Addr} {sl33 : Array (Option Value)} {oc33 kV33 dc33 pm33 cd33 ct33 : Value} (a33 : PySem.W.nsIn K mainGlobals "least_deviation" = some (some (.ref f33))) (l33 : K.lookup f33 = some ⟨oc33, od33, .func (PySem.W.fnOf "least_deviation" "least_deviation" (defArgs s_least_deviation) (defBody s_least_deviation) (defScope s_least_deviation) .none kV33 dc33 pm33 an33 cd33 ct33), sl33⟩) (c33 : PySem.W.codeIn K cd33 "least_deviation" = true) (k33 : PySem.W.keepIn K (.ref f33) = true)
    {f34 : Addr} {od34 an34 : Option Addr} {sl34 : Array (Option Value)} {oc34 kV34 dc34 pm34 cd34 ct34 : Value} (a34 : PySem.W.nsIn K mainGlobals "raised_joins" = some (some (.ref f34))) (l34 : K.lookup f34 = some ⟨oc34, od34, .func (PySem.W.fnOf "raised_joins" "raised_joins" (defArgs s_raised_joins) (defBody s_raised_joins) (defScope s_raised_joins) .none kV34 dc34 pm34 an34 cd34 ct34), sl34⟩) (c34 : PySem.W.codeIn K cd34 "raised_joins" = true) (k34 : PySem.W.keepIn K (.ref f34) = true)
    {f35 : Addr} {od35 an35 : Option Addr} {sl35 : Array (Option Value)} {oc35 kV35 dc35 pm35 cd35 ct35 : Value} (a35 : PySem.W.nsIn K mainGlobals "nearest_table" = some (some (.ref f35))) (l35 : K.lookup f35 = some ⟨oc35, od35, .func (PySem.W.fnOf "nearest_table" "nearest_table" (defArgs s_nearest_table) (defBody s_nearest_table) (defScope s_nearest_table) .none kV35 dc35 pm35 an35 cd35 ct35), sl35⟩) (c35 : PySem.W.codeIn K cd35 "nearest_table" = true) (k35 : PySem.W.keepIn K (.ref f35) = true)
    {f36 : Addr} {od36 an36 : Option Addr} {sl36 : Array (Option Value)} {oc36 kV36 dc36 pm36 cd36 ct36 : Value} (a36 : PySem.W.nsIn K mainGlobals "nested_within" = some (some (.ref f36))) (l36 : K.lookup f36 = some ⟨oc36, od36, .func (PySem.W.fnOf "nested_within" "nested_within" (defArgs s_nested_within) (defBody s_nested_within) (defScope s_nested_within) .none kV36 dc36 pm36 an36 cd36 ct36), sl36⟩) (c36 : PySem.W.codeIn K cd36 "nested_within" = true) (k36 : PySem.W.keepIn K (.ref f36) = true)
    {f37 : Addr} {od37 an37 : Option Addr} {sl37 : Array (Option Value)} {oc37 kV37 dc37 pm37 cd37 ct37 : Value} (a37 : PySem.W.nsIn K mainGlobals "tree_of" = some (some (.ref f37))) (l37 : K.lookup f37 = some ⟨oc37, od37, .func (PySem.W.fnOf "tree_of" "tree_of" (defArgs s_tree_of) (defBody s_tree_of) (defScope s_tree_of) .none kV37 dc37 pm37 an37 cd37 ct37), sl37⟩) (c37 : PySem.W.codeIn K cd37 "tree_of" = true) (k37 : PySem.W.keepIn K (.ref f37) = true)
    {f38 : Addr} {od38 an38 : Option Addr} {sl38 : Array (Option Value)} {oc38 kV38 dc38 pm38 cd38 ct38 : Value} (a38 : PySem.W.nsIn K mainGlobals "items_of" = some (some (.ref f38))) (l38 : K.lookup f38 = some ⟨oc38, od38, .func (PySem.W.fnOf "items_of" "items_of" (defArgs s_items_of) (defBody s_items_of) (defScope s_items_of) .none kV38 dc38 pm38 an38 cd38 ct38), sl38⟩) (c38 : PySem.W.codeIn K cd38 "items_of" = true) (k38 : PySem.W.keepIn K (.ref f38) = true)
    {f39 : Addr} {od39 an39 : Option Addr} {sl39 : Array (Option Value)} {oc39 kV39 dc39 pm39 cd39 ct39 : Value} (a39 : PySem.W.nsIn K mainGlobals "level_in" = some (some (.ref f39))) (l39 : K.lookup f39 = some ⟨oc39, od39, .func (PySem.W.fnOf "level_in" "level_in" (defArgs s_level_in) (defBody s_level_in) (defScope s_level_in) .none kV39 dc39 pm39 an39 cd39 ct39), sl39⟩) (c39 : PySem.W.codeIn K cd39 "level_in" = true) (k39 : PySem.W.keepIn K (.ref f39) = true)
    {f40 : Addr} {od40 an40 : Option Addr} {sl40 : Array (Option Value)} {oc40 kV40 dc40 pm40 cd40 ct40 : Value} (a40 : PySem.W.nsIn K mainGlobals "table_of" = some (some (.ref f40))) (l40 : K.lookup f40 = some ⟨oc40, od40, .func (PySem.W.fnOf "table_of" "table_of" (defArgs s_table_of) (defBody s_table_of) (defScope s_table_of) .none kV40 dc40 pm40 an40 cd40 ct40), sl40⟩) (c40 : PySem.W.codeIn K cd40 "table_of" = true) (k40 : PySem.W.keepIn K (.ref f40) = true)
    {f41 : Addr} {od41 an41 : Option Addr} {sl41 : Array (Option Value)} {oc41 kV41 dc41 pm41 cd41 ct41 : Value} (a41 : PySem.W.nsIn K mainGlobals "is_part" = some (some (.ref f41))) (l41 : K.lookup f41 = some ⟨oc41, od41, .func (PySem.W.fnOf "is_part" "is_part" (defArgs s_is_part) (defBody s_is_part) (defScope s_is_part) .none kV41 dc41 pm41 an41 cd41 ct41), sl41⟩) (c41 : PySem.W.codeIn K cd41 "is_part" = true) (k41 : PySem.W.keepIn K (.ref f41) = true)
    {f42 : Addr} {od42 an42 : Option Addr} {sl42 : Array (Option Value)} {oc42 kV42 dc42 pm42 cd42 ct42 : Value} (a42 : PySem.W.nsIn K mainGlobals "is_tree" = some (some (.ref f42))) (l42 : K.lookup f42 = some ⟨oc42, od42, .func (PySem.W.fnOf "is_tree" "is_tree" (defArgs s_is_tree) (defBody s_is_tree) (defScope s_is_tree) .none kV42 dc42 pm42 an42 cd42 ct42), sl42⟩) (c42 : PySem.W.codeIn K cd42 "is_tree" = true) (k42 : PySem.W.keepIn K (.ref f42) = true)
    {f43 : Addr} {od43 an43 : Option Addr} {sl43 : Array (Option Value)} {oc43 kV43 dc43 pm43 cd43 ct43 : Value} (a43 : PySem.W.nsIn K mainGlobals "is_order" = some (some (.ref f43))) (l43 : K.lookup f43 = some ⟨oc43, od43, .func (PySem.W.fnOf "is_order" "is_order" (defArgs s_is_order) (defBody s_is_order) (defScope s_is_order) .none kV43 dc43 pm43 an43 cd43 ct43), sl43⟩) (c43 : PySem.W.codeIn K cd43 "is_order" = true) (k43 : PySem.W.keepIn K (.ref f43) = true)
    {f44 : Addr} {od44 an44 : Option Addr} {sl44 : Array (Option Value)} {oc44 kV44 dc44 pm44 cd44 ct44 : Value} (a44 : PySem.W.nsIn K mainGlobals "relabeled" = some (some (.ref f44))) (l44 : K.lookup f44 = some ⟨oc44, od44, .func (PySem.W.fnOf "relabeled" "relabeled" (defArgs s_relabeled) (defBody s_relabeled) (defScope s_relabeled) .none kV44 dc44 pm44 an44 cd44 ct44), sl44⟩) (c44 : PySem.W.codeIn K cd44 "relabeled" = true) (k44 : PySem.W.keepIn K (.ref f44) = true)
    {f45 : Addr} {od45 an45 : Option Addr} {sl45 : Array (Option Value)} {oc45 kV45 dc45 pm45 cd45 ct45 : Value} (a45 : PySem.W.nsIn K mainGlobals "_law_draws" = some (some (.ref f45))) (l45 : K.lookup f45 = some ⟨oc45, od45, .func (PySem.W.fnOf "_law_draws" "_law_draws" (defArgs s_L_draws) (defBody s_L_draws) (defScope s_L_draws) .none kV45 dc45 pm45 an45 cd45 ct45), sl45⟩) (c45 : PySem.W.codeIn K cd45 "_law_draws" = true) (k45 : PySem.W.keepIn K (.ref f45) = true)
    {f46 : Addr} {od46 an46 : Option Addr} {sl46 : Array (Option Value)} {oc46 kV46 dc46 pm46 cd46 ct46 : Value} (a46 : PySem.W.nsIn K mainGlobals "_law_next" = some (some (.ref f46))) (l46 : K.lookup f46 = some ⟨oc46, od46, .func (PySem.W.fnOf "_law_next" "_law_next" (defArgs s_L_next) (defBody s_L_next) (defScope s_L_next) .none kV46 dc46 pm46 an46 cd46 ct46), sl46⟩) (c46 : PySem.W.codeIn K cd46 "_law_next" = true) (k46 : PySem.W.keepIn K (.ref f46) = true)
    {f47 : Addr} {od47 an47 : Option Addr} {sl47 : Array (Option Value)} {oc47 kV47 dc47 pm47 cd47 ct47 : Value} (a47 : PySem.W.nsIn K mainGlobals "_law_one" = some (some (.ref f47))) (l47 : K.lookup f47 = some ⟨oc47, od47, .func (PySem.W.fnOf "_law_one" "_law_one" (defArgs s_L_one) (defBody s_L_one) (defScope s_L_one) .none kV47 dc47 pm47 an47 cd47 ct47), sl47⟩) (c47 : PySem.W.codeIn K cd47 "_law_one" = true) (k47 : PySem.W.keepIn K (.ref f47) = true)
    {f48 : Addr} {od48 an48 : Option Addr} {sl48 : Array (Option Value)} {oc48 kV48 dc48 pm48 cd48 ct48 : Value} (a48 : PySem.W.nsIn K mainGlobals "_law_equal" = some (some (.ref f48))) (l48 : K.lookup f48 = some ⟨oc48, od48, .func (PySem.W.fnOf "_law_equal" "_law_equal" (defArgs s_L_equal) (defBody s_L_equal) (defScope s_L_equal) .none kV48 dc48 pm48 an48 cd48 ct48), sl48⟩) (c48 : PySem.W.codeIn K cd48 "_law_equal" = true) (k48 : PySem.W.keepIn K (.ref f48) = true)
    {f49 : Addr} {od49 an49 : Option Addr} {sl49 : Array (Option Value)} {oc49 kV49 dc49 pm49 cd49 ct49 : Value} (a49 : PySem.W.nsIn K mainGlobals "_law_count" = some (some (.ref f49))) (l49 : K.lookup f49 = some ⟨oc49, od49, .func (PySem.W.fnOf "_law_count" "_law_count" (defArgs s_L_count) (defBody s_L_count) (defScope s_L_count) .none kV49 dc49 pm49 an49 cd49 ct49), sl49⟩) (c49 : PySem.W.codeIn K cd49 "_law_count" = true) (k49 : PySem.W.keepIn K (.ref f49) = true)
    {f50 : Addr} {od50 an50 : Option Addr} {sl50 : Array (Option Value)} {oc50 kV50 dc50 pm50 cd50 ct50 : Value} (a50 : PySem.W.nsIn K mainGlobals "_law_grades" = some (some (.ref f50))) (l50 : K.lookup f50 = some ⟨oc50, od50, .func (PySem.W.fnOf "_law_grades" "_law_grades" (defArgs s_L_grades) (defBody s_L_grades) (defScope s_L_grades) .none kV50 dc50 pm50 an50 cd50 ct50), sl50⟩) (c50 : PySem.W.codeIn K cd50 "_law_grades" = true) (k50 : PySem.W.keepIn K (.ref f50) = true)
    {f51 : Addr} {od51 an51 : Option Addr} {sl51 : Array (Option Value)} {oc51 kV51 dc51 pm51 cd51 ct51 : Value} (a51 : PySem.W.nsIn K mainGlobals "_law_level" = some (some (.ref f51))) (l51 : K.lookup f51 = some ⟨oc51, od51, .func (PySem.W.fnOf "_law_level" "_law_level" (defArgs s_L_level) (defBody s_L_level) (defScope s_L_level) .none kV51 dc51 pm51 an51 cd51 ct51), sl51⟩) (c51 : PySem.W.codeIn K cd51 "_law_level" = true) (k51 : PySem.W.keepIn K (.ref f51) = true)
    {f52 : Addr} {od52 an52 : Option Addr} {sl52 : Array (Option Value)} {oc52 kV52 dc52 pm52 cd52 ct52 : Value} (a52 : PySem.W.nsIn K mainGlobals "_law_nested" = some (some (.ref f52))) (l52 : K.lookup f52 = some ⟨oc52, od52, .func (PySem.W.fnOf "_law_nested" "_law_nested" (defArgs s_L_nested) (defBody s_L_nested) (defScope s_L_nested) .none kV52 dc52 pm52 an52 cd52 ct52), sl52⟩) (c52 : PySem.W.codeIn K cd52 "_law_nested" = true) (k52 : PySem.W.keepIn K (.ref f52) = true)
    {f53 : Addr} {od53 an53 : Option Addr} {sl53 : Array (Option Value)} {oc53 kV53 dc53 pm53 cd53 ct53 : Value} (a53 : PySem.W.nsIn K mainGlobals "_law_raised" = some (some (.ref f53))) (l53 : K.lookup f53 = some ⟨oc53, od53, .func (PySem.W.fnOf "_law_raised" "_law_raised" (defArgs s_L_raised) (defBody s_L_raised) (defScope s_L_raised) .none kV53 dc53 pm53 an53 cd53 ct53), sl53⟩) (c53 : PySem.W.codeIn K cd53 "_law_raised" = true) (k53 : PySem.W.keepIn K (.ref f53) = true)
    {f54 : Addr} {od54 an54 : Option Addr} {sl54 : Array (Option Value)} {oc54 kV54 dc54 pm54 cd54 ct54 : Value} (a54 : PySem.W.nsIn K mainGlobals "_law_levels" = some (some (.ref f54))) (l54 : K.lookup f54 = some ⟨oc54, od54, .func (PySem.W.fnOf "_law_levels" "_law_levels" (defArgs s_L_levels) (defBody s_L_levels) (defScope s_L_levels) .none kV54 dc54 pm54 an54 cd54 ct54), sl54⟩) (c54 : PySem.W.codeIn K cd54 "_law_levels" = true) (k54 : PySem.W.keepIn K (.ref f54) = true)
    {f55 : Addr} {od55 an55 : Option Addr} {sl55 : Array (Option Value)} {oc55 kV55 dc55 pm55 cd55 ct55 : Value} (a55 : PySem.W.nsIn K mainGlobals "_law_any" = some (some (.ref f55))) (l55 : K.lookup f55 = some ⟨oc55, od55, .func (PySem.W.fnOf "_law_any" "_law_any" (defArgs s_L_any) (defBody s_L_any) (defScope s_L_any) .none kV55 dc55 pm55 an55 cd55 ct55), sl55⟩) (c55 : PySem.W.codeIn K cd55 "_law_any" = true) (k55 : PySem.W.keepIn K (.ref f55) = true)
    {f56 : Addr} {od56 an56 : Option Addr} {sl56 : Array (Option Value)} {oc56 kV56 dc56 pm56 cd56 ct56 : Value} (a56 : PySem.W.nsIn K mainGlobals "_law_table" = some (some (.ref f56))) (l56 : K.lookup f56 = some ⟨oc56, od56, .func (PySem.W.fnOf "_law_table" "_law_table" (defArgs s_L_table) (defBody s_L_table) (defScope s_L_table) .none kV56 dc56 pm56 an56 cd56 ct56), sl56⟩) (c56 : PySem.W.codeIn K cd56 "_law_table" = true) (k56 : PySem.W.keepIn K (.ref f56) = true)
    {f57 : Addr} {od57 an57 : Option Addr} {sl57 : Array (Option Value)} {oc57 kV57 dc57 pm57 cd57 ct57 : Value} (a57 : PySem.W.nsIn K mainGlobals "_law_tree_read" = some (some (.ref f57))) (l57 : K.lookup f57 = some ⟨oc57, od57, .func (PySem.W.fnOf "_law_tree_read" "_law_tree_read" (defArgs s_L_tree_read) (defBody s_L_tree_read) (defScope s_L_tree_read) .none kV57 dc57 pm57 an57 cd57 ct57), sl57⟩) (c57 : PySem.W.codeIn K cd57 "_law_tree_read" = true) (k57 : PySem.W.keepIn K (.ref f57) = true)
    {f58 : Addr} {od58 an58 : Option Addr} {sl58 : Array (Option Value)} {oc58 kV58 dc58 pm58 cd58 ct58 : Value} (a58 : PySem.W.nsIn K mainGlobals "_law_tree_right" = some (some (.ref f58))) (l58 : K.lookup f58 = some ⟨oc58, od58, .func (PySem.W.fnOf "_law_tree_right" "_law_tree_right" (defArgs s_L_tree_right) (defBody s_L_tree_right) (defScope s_L_tree_right) .none kV58 dc58 pm58 an58 cd58 ct58), sl58⟩) (c58 : PySem.W.codeIn K cd58 "_law_tree_right" = true) (k58 : PySem.W.keepIn K (.ref f58) = true)
    {f59 : Addr} {od59 an59 : Option Addr} {sl59 : Array (Option Value)} {oc59 kV59 dc59 pm59 cd59 ct59 : Value} (a59 : PySem.W.nsIn K mainGlobals "_law_board_right" = some (some (.ref f59))) (l59 : K.lookup f59 = some ⟨oc59, od59, .func (PySem.W.fnOf "_law_board_right" "_law_board_right" (defArgs s_L_board_right) (defBody s_L_board_right) (defScope s_L_board_right) .none kV59 dc59 pm59 an59 cd59 ct59), sl59⟩) (c59 : PySem.W.codeIn K cd59 "_law_board_right" = true) (k59 : PySem.W.keepIn K (.ref f59) = true)
    {f60 : Addr} {od60 an60 : Option Addr} {sl60 : Array (Option Value)} {oc60 kV60 dc60 pm60 cd60 ct60 : Value} (a60 : PySem.W.nsIn K mainGlobals "law" = some (some (.ref f60))) (l60 : K.lookup f60 = some ⟨oc60, od60, .func (PySem.W.fnOf "law" "law" (defArgs s_law) (defBody s_law) (defScope s_law) .none kV60 dc60 pm60 an60 cd60 ct60), sl60⟩) (c60 : PySem.W.codeIn K cd60 "law" = true) (k60 : PySem.W.keepIn K (.ref f60) = true)
    {C_Board : Addr}
    (aC_Board : PySem.W.nsIn K mainGlobals "Board" = some (some (.ref C_Board)))
    (pg_Board : PySem.W.plainGet K C_Board Str.empty = true)
    (hd_Board : PySem.W.hasDictIn K C_Board = true)
    (po_Board : PySem.W.plainOver K C_Board = true)
    (sa_Board : PySem.W.findIn K (.ref C_Board) "__setattr__" = some (some (.builtin "object.__setattr__")))
    (mk_Board : PySem.W.makesIn K C_Board = true)
    (kc_Board : PySem.W.keepIn K (.ref C_Board) = true)
    (ha_Board : PySem.W.findIn K (.ref C_Board) "__class__" = some (some (.builtin "object.__class__")))
    (hn_Board : PySem.W.specialIn K (.builtin "object.__class__") "__get__" = some (some (.builtin "getset_descriptor.__get__")))
    (ht_Board : PySem.W.takesIn K (.builtin "object.__class__") = some true)
    (hm_Board : PySem.W.mroIn K C_Board (.type "object") = some true)
    (tC_Board : PySem.W.typeIn K (.ref C_Board) = some (.type "type"))
    (rd_Board : PySem.W.readsIn K C_Board (.type "type") = true)
    (ga_Board : PySem.W.specialIn K (.ref C_Board) "__getattribute__" = some (some (.builtin "type.__getattribute__")))
    (ki_Board : PySem.W.kitOne K (.ref C_Board) (.ref C_Board) = some true)
    (nf_kept_Board : PySem.W.findIn K (.ref C_Board) "kept" = some none)
    (nf_tables_Board : PySem.W.findIn K (.ref C_Board) "tables" = some none)
    (nf_level_Board : PySem.W.findIn K (.ref C_Board) "level" = some none)
    (nf_busy_Board : PySem.W.findIn K (.ref C_Board) "busy" = some none)
    (nf_rows_Board : PySem.W.findIn K (.ref C_Board) "rows" = some none)
    {t_Board_LIMIT : Tok}
    (kn_Board_LIMIT : PySem.W.findIn K (.ref C_Board) "LIMIT" = some (some (.int 60 t_Board_LIMIT)))
    (kg_Board_LIMIT : PySem.W.specialIn K (.int 60 t_Board_LIMIT) "__get__" = some none)
    (kn_Board_NESTED : PySem.W.findIn K (.ref C_Board) "NESTED" = some (some (.bool false)))
    (kg_Board_NESTED : PySem.W.specialIn K (.bool false) "__get__" = some none)
    {f_Board_init : Addr} {od_Board_init an_Board_init : Option Addr} {sl_Board_init : Array (Option Value)} {oc_Board_init kV_Board_init dc_Board_init pm_Board_init cd_Board_init ct_Board_init : Value}
    (a_Board_init : PySem.W.findIn K (.ref C_Board) "__init__" = some (some (.ref f_Board_init)))
    (i_Board_init : PySem.W.isFn K (.ref f_Board_init) = true)
    (l_Board_init : K.lookup f_Board_init = some ⟨oc_Board_init, od_Board_init, .func (PySem.W.fnOf "__init__" "Board.__init__" (defArgs s_Board_init) (defBody s_Board_init) (defScope s_Board_init) .none kV_Board_init dc_Board_init pm_Board_init an_Board_init cd_Board_init ct_Board_init), sl_Board_init⟩)
    (c_Board_init : PySem.W.codeIn K cd_Board_init "Board.__init__" = true)
    (k_Board_init : PySem.W.keepIn K (.ref f_Board_init) = true)
    (w_Board_init : PySem.W.fnIn K f_Board_init = true)
    {f_Board_read : Addr} {od_Board_read an_Board_read : Option Addr} {sl_Board_read : Array (Option Value)} {oc_Board_read kV_Board_read dc_Board_read pm_Board_read cd_Board_read ct_Board_read : Value}
    {p_Board_read : Addr} {rest_Board_read : List Value}
    (a_Board_read : cmB K C_Board "read" p_Board_read = true)
    (pr_Board_read : PySem.W.recIn K p_Board_read "classmethod" = some (.ref f_Board_read :: rest_Board_read))
    (l_Board_read : K.lookup f_Board_read = some ⟨oc_Board_read, od_Board_read, .func (PySem.W.fnOf "read" "Board.read" (defArgs s_Board_read) (defBody s_Board_read) (defScope s_Board_read) .none kV_Board_read dc_Board_read pm_Board_read an_Board_read cd_Board_read ct_Board_read), sl_Board_read⟩)
    (c_Board_read : PySem.W.codeIn K cd_Board_read "Board.read" = true)
    (k_Board_read : PySem.W.keepIn K (.ref f_Board_read) = true)
    (w_Board_read : PySem.W.fnIn K f_Board_read = true)
    {f_Board_cut : Addr} {od_Board_cut an_Board_cut : Option Addr} {sl_Board_cut : Array (Option Value)} {oc_Board_cut kV_Board_cut dc_Board_cut pm_Board_cut cd_Board_cut ct_Board_cut : Value}
    {p_Board_cut : Addr} {rest_Board_cut : List Value}
    (a_Board_cut : PySem.W.findIn K (.ref C_Board) "cut" = some (some (.ref p_Board_cut)))
    (pg_Board_cut : PySem.W.specialIn K (.ref p_Board_cut) "__get__" = some (some (.builtin "property.__get__")))
    (pt_Board_cut : PySem.W.takesIn K (.ref p_Board_cut) = some true)
    (pr_Board_cut : PySem.W.recIn K p_Board_cut "property" = some (.ref f_Board_cut :: rest_Board_cut))
    (l_Board_cut : K.lookup f_Board_cut = some ⟨oc_Board_cut, od_Board_cut, .func (PySem.W.fnOf "cut" "Board.cut" (defArgs s_Board_cut) (defBody s_Board_cut) (defScope s_Board_cut) .none kV_Board_cut dc_Board_cut pm_Board_cut an_Board_cut cd_Board_cut ct_Board_cut), sl_Board_cut⟩)
    (c_Board_cut : PySem.W.codeIn K cd_Board_cut "Board.cut" = true)
    (k_Board_cut : PySem.W.keepIn K (.ref f_Board_cut) = true)
    {f_Board_groups : Addr} {od_Board_groups an_Board_groups : Option Addr} {sl_Board_groups : Array (Option Value)} {oc_Board_groups kV_Board_groups dc_Board_groups pm_Board_groups cd_Board_groups ct_Board_groups : Value}
    {p_Board_groups : Addr} {rest_Board_groups : List Value}
    (a_Board_groups : PySem.W.findIn K (.ref C_Board) "groups" = some (some (.ref p_Board_groups)))
    (pg_Board_groups : PySem.W.specialIn K (.ref p_Board_groups) "__get__" = some (some (.builtin "property.__get__")))
    (pt_Board_groups : PySem.W.takesIn K (.ref p_Board_groups) = some true)
    (pr_Board_groups : PySem.W.recIn K p_Board_groups "property" = some (.ref f_Board_groups :: rest_Board_groups))
    (l_Board_groups : K.lookup f_Board_groups = some ⟨oc_Board_groups, od_Board_groups, .func (PySem.W.fnOf "groups" "Board.groups" (defArgs s_Board_groups) (defBody s_Board_groups) (defScope s_Board_groups) .none kV_Board_groups dc_Board_groups pm_Board_groups an_Board_groups cd_Board_groups ct_Board_groups), sl_Board_groups⟩)
    (c_Board_groups : PySem.W.codeIn K cd_Board_groups "Board.groups" = true)
    (k_Board_groups : PySem.W.keepIn K (.ref f_Board_groups) = true)
    {f_Board_top : Addr} {od_Board_top an_Board_top : Option Addr} {sl_Board_top : Array (Option Value)} {oc_Board_top kV_Board_top dc_Board_top pm_Board_top cd_Board_top ct_Board_top : Value}
    {p_Board_top : Addr} {rest_Board_top : List Value}
    (a_Board_top : PySem.W.findIn K (.ref C_Board) "top" = some (some (.ref p_Board_top)))
    (pg_Board_top : PySem.W.specialIn K (.ref p_Board_top) "__get__" = some (some (.builtin "property.__get__")))
    (pt_Board_top : PySem.W.takesIn K (.ref p_Board_top) = some true)
    (pr_Board_top : PySem.W.recIn K p_Board_top "property" = some (.ref f_Board_top :: rest_Board_top))
    (l_Board_top : K.lookup f_Board_top = some ⟨oc_Board_top, od_Board_top, .func (PySem.W.fnOf "top" "Board.top" (defArgs s_Board_top) (defBody s_Board_top) (defScope s_Board_top) .none kV_Board_top dc_Board_top pm_Board_top an_Board_top cd_Board_top ct_Board_top), sl_Board_top⟩)
    (c_Board_top : PySem.W.codeIn K cd_Board_top "Board.top" = true)
    (k_Board_top : PySem.W.keepIn K (.ref f_Board_top) = true)
    {f_Board_call : Addr} {od_Board_call an_Board_call : Option Addr} {sl_Board_call : Array (Option Value)} {oc_Board_call kV_Board_call dc_Board_call pm_Board_call cd_Board_call ct_Board_call : Value}
    (a_Board_call : PySem.W.findIn K (.ref C_Board) "__call__" = some (some (.ref f_Board_call)))
    (i_Board_call : PySem.W.isFn K (.ref f_Board_call) = true)
    (l_Board_call : K.lookup f_Board_call = some ⟨oc_Board_call, od_Board_call, .func (PySem.W.fnOf "__call__" "Board.__call__" (defArgs s_Board_call) (defBody s_Board_call) (defScope s_Board_call) .none kV_Board_call dc_Board_call pm_Board_call an_Board_call cd_Board_call ct_Board_call), sl_Board_call⟩)
    (c_Board_call : PySem.W.codeIn K cd_Board_call "Board.__call__" = true)
    (k_Board_call : PySem.W.keepIn K (.ref f_Board_call) = true)
    (w_Board_call : PySem.W.fnIn K f_Board_call = true)
    {f_Board_contains : Addr} {od_Board_contains an_Board_contains : Option Addr} {sl_Board_contains : Array (Option Value)} {oc_Board_contains kV_Board_contains dc_Board_contains pm_Board_contains cd_Board_contains ct_Board_contains : Value}
    (a_Board_contains : PySem.W.findIn K (.ref C_Board) "__contains__" = some (some (.ref f_Board_contains)))
    (i_Board_contains : PySem.W.isFn K (.ref f_Board_contains) = true)
    (l_Board_contains : K.lookup f_Board_contains = some ⟨oc_Board_contains, od_Board_contains, .func (PySem.W.fnOf "__contains__" "Board.__contains__" (defArgs s_Board_contains) (defBody s_Board_contains) (defScope s_Board_contains) .none kV_Board_contains dc_Board_contains pm_Board_contains an_Board_contains cd_Board_contains ct_Board_contains), sl_Board_contains⟩)
    (c_Board_contains : PySem.W.codeIn K cd_Board_contains "Board.__contains__" = true)
    (k_Board_contains : PySem.W.keepIn K (.ref f_Board_contains) = true)
    (w_Board_contains : PySem.W.fnIn K f_Board_contains = true)
    {f_Board_table : Addr} {od_Board_table an_Board_table : Option Addr} {sl_Board_table : Array (Option Value)} {oc_Board_table kV_Board_table dc_Board_table pm_Board_table cd_Board_table ct_Board_table : Value}
    (a_Board_table : PySem.W.findIn K (.ref C_Board) "table" = some (some (.ref f_Board_table)))
    (i_Board_table : PySem.W.isFn K (.ref f_Board_table) = true)
    (l_Board_table : K.lookup f_Board_table = some ⟨oc_Board_table, od_Board_table, .func (PySem.W.fnOf "table" "Board.table" (defArgs s_Board_table) (defBody s_Board_table) (defScope s_Board_table) .none kV_Board_table dc_Board_table pm_Board_table an_Board_table cd_Board_table ct_Board_table), sl_Board_table⟩)
    (c_Board_table : PySem.W.codeIn K cd_Board_table "Board.table" = true)
    (k_Board_table : PySem.W.keepIn K (.ref f_Board_table) = true)
    (w_Board_table : PySem.W.fnIn K f_Board_table = true)
    {f_Board_nested : Addr} {od_Board_nested an_Board_nested : Option Addr} {sl_Board_nested : Array (Option Value)} {oc_Board_nested kV_Board_nested dc_Board_nested pm_Board_nested cd_Board_nested ct_Board_nested : Value}
    (a_Board_nested : PySem.W.findIn K (.ref C_Board) "nested" = some (some (.ref f_Board_nested)))
    (i_Board_nested : PySem.W.isFn K (.ref f_Board_nested) = true)
    (l_Board_nested : K.lookup f_Board_nested = some ⟨oc_Board_nested, od_Board_nested, .func (PySem.W.fnOf "nested" "Board.nested" (defArgs s_Board_nested) (defBody s_Board_nested) (defScope s_Board_nested) .none kV_Board_nested dc_Board_nested pm_Board_nested an_Board_nested cd_Board_nested ct_Board_nested), sl_Board_nested⟩)
    (c_Board_nested : PySem.W.codeIn K cd_Board_nested "Board.nested" = true)
    (k_Board_nested : PySem.W.keepIn K (.ref f_Board_nested) = true)
    (w_Board_nested : PySem.W.fnIn K f_Board_nested = true)
    {f_Board_joins : Addr} {od_Board_joins an_Board_joins : Option Addr} {sl_Board_joins : Array (Option Value)} {oc_Board_joins kV_Board_joins dc_Board_joins pm_Board_joins cd_Board_joins ct_Board_joins : Value}
    (a_Board_joins : PySem.W.findIn K (.ref C_Board) "joins" = some (some (.ref f_Board_joins)))
    (i_Board_joins : PySem.W.isFn K (.ref f_Board_joins) = true)
    (l_Board_joins : K.lookup f_Board_joins = some ⟨oc_Board_joins, od_Board_joins, .func (PySem.W.fnOf "joins" "Board.joins" (defArgs s_Board_joins) (defBody s_Board_joins) (defScope s_Board_joins) .none kV_Board_joins dc_Board_joins pm_Board_joins an_Board_joins cd_Board_joins ct_Board_joins), sl_Board_joins⟩)
    (c_Board_joins : PySem.W.codeIn K cd_Board_joins "Board.joins" = true)
    (k_Board_joins : PySem.W.keepIn K (.ref f_Board_joins) = true)
    (w_Board_joins : PySem.W.fnIn K f_Board_joins = true)
    {f_Board_actions : Addr} {od_Board_actions an_Board_actions : Option Addr} {sl_Board_actions : Array (Option Value)} {oc_Board_actions kV_Board_actions dc_Board_actions pm_Board_actions cd_Board_actions ct_Board_actions : Value}
    (a_Board_actions : PySem.W.findIn K (.ref C_Board) "actions" = some (some (.ref f_Board_actions)))
    (i_Board_actions : PySem.W.isFn K (.ref f_Board_actions) = true)
    (l_Board_actions : K.lookup f_Board_actions = some ⟨oc_Board_actions, od_Board_actions, .func (PySem.W.fnOf "actions" "Board.actions" (defArgs s_Board_actions) (defBody s_Board_actions) (defScope s_Board_actions) .none kV_Board_actions dc_Board_actions pm_Board_actions an_Board_actions cd_Board_actions ct_Board_actions), sl_Board_actions⟩)
    (c_Board_actions : PySem.W.codeIn K cd_Board_actions "Board.actions" = true)
    (k_Board_actions : PySem.W.keepIn K (.ref f_Board_actions) = true)
    (w_Board_actions : PySem.W.fnIn K f_Board_actions = true)
    {f_Board_len : Addr} {od_Board_len an_Board_len : Option Addr} {sl_Board_len : Array (Option Value)} {oc_Board_len kV_Board_len dc_Board_len pm_Board_len cd_Board_len ct_Board_len : Value}
    (a_Board_len : PySem.W.findIn K (.ref C_Board) "__len__" = some (some (.ref f_Board_len)))
    (i_Board_len : PySem.W.isFn K (.ref f_Board_len) = true)
    (l_Board_len : K.lookup f_Board_len = some ⟨oc_Board_len, od_Board_len, .func (PySem.W.fnOf "__len__" "Board.__len__" (defArgs s_Board_len) (defBody s_Board_len) (defScope s_Board_len) .none kV_Board_len dc_Board_len pm_Board_len an_Board_len cd_Board_len ct_Board_len), sl_Board_len⟩)
    (c_Board_len : PySem.W.codeIn K cd_Board_len "Board.__len__" = true)
    (k_Board_len : PySem.W.keepIn K (.ref f_Board_len) = true)
    (w_Board_len : PySem.W.fnIn K f_Board_len = true)
    {f_Board_eq : Addr} {od_Board_eq an_Board_eq : Option Addr} {sl_Board_eq : Array (Option Value)} {oc_Board_eq kV_Board_eq dc_Board_eq pm_Board_eq cd_Board_eq ct_Board_eq : Value}
    (a_Board_eq : PySem.W.findIn K (.ref C_Board) "__eq__" = some (some (.ref f_Board_eq)))
    (i_Board_eq : PySem.W.isFn K (.ref f_Board_eq) = true)
    (l_Board_eq : K.lookup f_Board_eq = some ⟨oc_Board_eq, od_Board_eq, .func (PySem.W.fnOf "__eq__" "Board.__eq__" (defArgs s_Board_eq) (defBody s_Board_eq) (defScope s_Board_eq) .none kV_Board_eq dc_Board_eq pm_Board_eq an_Board_eq cd_Board_eq ct_Board_eq), sl_Board_eq⟩)
    (c_Board_eq : PySem.W.codeIn K cd_Board_eq "Board.__eq__" = true)
    (k_Board_eq : PySem.W.keepIn K (.ref f_Board_eq) = true)
    (w_Board_eq : PySem.W.fnIn K f_Board_eq = true)
    {f_Board_str : Addr} {od_Board_str an_Board_str : Option Addr} {sl_Board_str : Array (Option Value)} {oc_Board_str kV_Board_str dc_Board_str pm_Board_str cd_Board_str ct_Board_str : Value}
    (a_Board_str : PySem.W.findIn K (.ref C_Board) "__str__" = some (some (.ref f_Board_str)))
    (i_Board_str : PySem.W.isFn K (.ref f_Board_str) = true)
    (l_Board_str : K.lookup f_Board_str = some ⟨oc_Board_str, od_Board_str, .func (PySem.W.fnOf "__str__" "Board.__str__" (defArgs s_Board_str) (defBody s_Board_str) (defScope s_Board_str) .none kV_Board_str dc_Board_str pm_Board_str an_Board_str cd_Board_str ct_Board_str), sl_Board_str⟩)
    (c_Board_str : PySem.W.codeIn K cd_Board_str "Board.__str__" = true)
    (k_Board_str : PySem.W.keepIn K (.ref f_Board_str) = true)
    (w_Board_str : PySem.W.fnIn K f_Board_str = true)
    {t_ITEMS : Tok} (n_ITEMS : PySem.W.nsIn K mainGlobals "ITEMS" = some (some (.int 12 t_ITEMS))) {t_LEVEL : Tok} (n_LEVEL : PySem.W.nsIn K mainGlobals "LEVEL" = some (some (.int 1000000000000 t_LEVEL))) {t_DIGITS : Tok} (n_DIGITS : PySem.W.nsIn K mainGlobals "DIGITS" = some (some (.int 13 t_DIGITS)))   (z1 : PySem.W.nsIn K mainGlobals "len" = some none) (z2 : PySem.W.nsIn K mainGlobals "list" = some none) (z3 : PySem.W.nsIn K mainGlobals "int" = some none) (z4 : PySem.W.nsIn K mainGlobals "range" = some none) (z5 : PySem.W.nsIn K mainGlobals "sorted" = some none) (z6 : PySem.W.nsIn K mainGlobals "set" = some none) (z7 : PySem.W.nsIn K mainGlobals "tuple" = some none) (z8 : PySem.W.nsIn K mainGlobals "min" = some none) (z9 : PySem.W.nsIn K mainGlobals "max" = some none) (z10 : PySem.W.nsIn K mainGlobals "isinstance" = some none) (z11 : PySem.W.nsIn K mainGlobals "bool" = some none) (z12 : PySem.W.nsIn K mainGlobals "str" = some none) (z13 : PySem.W.nsIn K mainGlobals "all" = some none) (z14 : PySem.W.nsIn K mainGlobals "zip" = some none) (z15 : PySem.W.nsIn K mainGlobals "repr" = some none) (z16 : PySem.W.nsIn K mainGlobals "enumerate" = some none) (z17 : PySem.W.nsIn K mainGlobals "abs" = some none) (z18 : PySem.W.nsIn K mainGlobals "sum" = some none) (z19 : PySem.W.nsIn K mainGlobals "dict" = some none) :
    ∃ fd : FuncData, (∀ (s : Shared) (v : Value), BindsTo s fd ⟨[v], []⟩ [("_law_script", v)]) ∧ ∀ base : Heap, K.In base → base.Ns mainGlobals mg → FnOk l.prog w K mg base CX0 18 fa fd ["_law_script"] (sp_law K) := by
  have e := hfa.symm.trans (PySem.W.mg_of X G a60)
  cases e
  have B : Bi mg := ⟨PySem.W.mg_none_of X G z1, PySem.W.mg_none_of X G z2, PySem.W.mg_none_of X G z3, PySem.W.mg_none_of X G z4, PySem.W.mg_none_of X G z5, PySem.W.mg_none_of X G z6, PySem.W.mg_none_of X G z7, PySem.W.mg_none_of X G z8, PySem.W.mg_none_of X G z9, PySem.W.mg_none_of X G z10, PySem.W.mg_none_of X G z11, PySem.W.mg_none_of X G z12, PySem.W.mg_none_of X G z13, PySem.W.mg_none_of X G z14, PySem.W.mg_none_of X G z15, PySem.W.mg_none_of X G z16, PySem.W.mg_none_of X G z17, PySem.W.mg_none_of X G z18, PySem.W.mg_none_of X G z19⟩
  have g_ITEMS : ∃ t, mg "ITEMS" = some (.int 12 t) := ⟨_, PySem.W.mg_of X G n_ITEMS⟩
  have g_LEVEL : ∃ t, mg "LEVEL" = some (.int 1000000000000 t) := ⟨_, PySem.W.mg_of X G n_LEVEL⟩
  have g_DIGITS : ∃ t, mg "DIGITS" = some (.int 13 t) := ⟨_, PySem.W.mg_of X G n_DIGITS⟩
  have d_is_whole := df_mk (st := s_is_whole) (ps := ["value"]) X G a1 l1 c1 k1 (fun _ _ _ _ _ _ us hl => match us, hl with | [_], _ => rfl)
  have d_is_level := df_mk (st := s_is_level) (ps := ["value"]) X G a2 l2 c2 k2 (fun _ _ _ _ _ _ us hl => match us, hl with | [_], _ => rfl)
  have d_is_item := df_mk (st := s_is_item) (ps := ["table", "value"]) X G a3 l3 c3 k3 (fun _ _ _ _ _ _ us hl => match us, hl with | [_, _], _ => rfl)
  have d_find_row_fault := df_mk (st := s_find_row_fault) (ps := ["at", "row"]) X G a4 l4 c4 k4 (fun _ _ _ _ _ _ us hl => match us, hl with | [_, _], _ => rfl)
  have d_find_fault := df_mk (st := s_find_fault) (ps := ["value"]) X G a5 l5 c5 k5 (fun _ _ _ _ _ _ us hl => match us, hl with | [_], _ => rfl)
  have d_level_between := df_mk (st := s_level_between) (ps := ["table", "one", "other"]) X G a6 l6 c6 k6 (fun _ _ _ _ _ _ us hl => match us, hl with | [_, _, _], _ => rfl)
  have d_levels_of := df_mk (st := s_levels_of) (ps := ["table"]) X G a7 l7 c7 k7 (fun _ _ _ _ _ _ us hl => match us, hl with | [_], _ => rfl)
  have d_pairs_of := df_mk (st := s_pairs_of) (ps := ["table"]) X G a8 l8 c8 k8 (fun _ _ _ _ _ _ us hl => match us, hl with | [_], _ => rfl)
  have d_number_of := df_mk (st := s_number_of) (ps := ["word"]) X G a9 l9 c9 k9 (fun _ _ _ _ _ _ us hl => match us, hl with | [_], _ => rfl)
  have d_joined := df_mk (st := s_joined) (ps := ["numbers"]) X G a10 l10 c10 k10 (fun _ _ _ _ _ _ us hl => match us, hl with | [_], _ => rfl)
  have d_format_table := df_mk (st := s_format_table) (ps := ["table"]) X G a11 l11 c11 k11 (fun _ _ _ _ _ _ us hl => match us, hl with | [_], _ => rfl)
  have d_format_tree := df_mk (st := s_format_tree) (ps := ["tree"]) X G a12 l12 c12 k12 (fun _ _ _ _ _ _ us hl => match us, hl with | [_], _ => rfl)
  have d_count_in := df_mk (st := s_count_in) (ps := ["line"]) X G a13 l13 c13 k13 (fun _ _ _ _ _ _ us hl => match us, hl with | [_], _ => rfl)
  have d_row_in := df_mk (st := s_row_in) (ps := ["line", "size"]) X G a14 l14 c14 k14 (fun _ _ _ _ _ _ us hl => match us, hl with | [_, _], _ => rfl)
  have d_parse_lines := df_mk (st := s_parse_lines) (ps := ["lines"]) X G a15 l15 c15 k15 (fun _ _ _ _ _ _ us hl => match us, hl with | [_], _ => rfl)
  have d_parse_table := df_mk (st := s_parse_table) (ps := ["value"]) X G a16 l16 c16 k16 (fun _ _ _ _ _ _ us hl => match us, hl with | [_], _ => rfl)
  have d_level_grid := df_mk (st := s_level_grid) (ps := ["table"]) X G a17 l17 c17 k17 (fun _ _ _ _ _ _ us hl => match us, hl with | [_], _ => rfl)
  have d_lowest_grid := df_mk (st := s_lowest_grid) (ps := ["grid"]) X G a18 l18 c18 k18 (fun _ _ _ _ _ _ us hl => match us, hl with | [_], _ => rfl)
  have d_join_grid := df_mk (st := s_join_grid) (ps := ["table"]) X G a19 l19 c19 k19 (fun _ _ _ _ _ _ us hl => match us, hl with | [_], _ => rfl)
  have d_nested_below := df_mk (st := s_nested_below) (ps := ["table"]) X G a20 l20 c20 k20 (fun _ _ _ _ _ _ us hl => match us, hl with | [_], _ => rfl)
  have d_is_path := df_mk (st := s_is_path) (ps := ["table", "value"]) X G a21 l21 c21 k21 (fun _ _ _ _ _ _ us hl => match us, hl with | [_, _], _ => rfl)
  have d_group_of := df_mk (st := s_group_of) (ps := ["grid", "item", "level"]) X G a22 l22 c22 k22 (fun _ _ _ _ _ _ us hl => match us, hl with | [_, _, _], _ => rfl)
  have d_all_groups := df_mk (st := s_all_groups) (ps := ["grid", "level"]) X G a23 l23 c23 k23 (fun _ _ _ _ _ _ us hl => match us, hl with | [_, _], _ => rfl)
  have d_steps_of := df_mk (st := s_steps_of) (ps := ["grid"]) X G a24 l24 c24 k24 (fun _ _ _ _ _ _ us hl => match us, hl with | [_], _ => rfl)
  have d_groups_at := df_mk (st := s_groups_at) (ps := ["table", "level"]) X G a25 l25 c25 k25 (fun _ _ _ _ _ _ us hl => match us, hl with | [_, _], _ => rfl)
  have d_clusters_of := df_mk (st := s_clusters_of) (ps := ["table"]) X G a26 l26 c26 k26 (fun _ _ _ _ _ _ us hl => match us, hl with | [_], _ => rfl)
  have d_is_cluster := df_mk (st := s_is_cluster) (ps := ["table", "value"]) X G a27 l27 c27 k27 (fun _ _ _ _ _ _ us hl => match us, hl with | [_, _], _ => rfl)
  have d_joins_of := df_mk (st := s_joins_of) (ps := ["table"]) X G a28 l28 c28 k28 (fun _ _ _ _ _ _ us hl => match us, hl with | [_], _ => rfl)
  have d_picked := df_mk (st := s_picked) (ps := ["table", "items"]) X G a29 l29 c29 k29 (fun _ _ _ _ _ _ us hl => match us, hl with | [_, _], _ => rfl)
  have d_check_cut := df_mk (st := s_check_cut) (ps := ["value"]) X G a30 l30 c30 k30 (fun _ _ _ _ _ _ us hl => match us, hl with | [_], _ => rfl)
  have d_widest_pair := df_mk (st := s_widest_pair) (ps := ["table"]) X G a31 l31 c31 k31 (fun _ _ _ _ _ _ us hl => match us, hl with | [_], _ => rfl)
  have d_greatest_gap := df_mk (st := s_greatest_gap) (ps := ["table"]) X G a32 l32 c32 k32 (fun _ _ _ _ _ _ us hl => match us, hl with | [_], _ => rfl)
  have d_least_deviation := df_mk (st := s_least_deviation) (ps := ["table"]) X G a33 l33 c33 k33 (fun _ _ _ _ _ _ us hl => match us, hl with | [_], _ => rfl)
  have d_raised_joins := df_mk (st := s_raised_joins) (ps := ["table", "rise", "top"]) X G a34 l34 c34 k34 (fun _ _ _ _ _ _ us hl => match us, hl with | [_, _, _], _ => rfl)
  have d_nearest_table := df_mk (st := s_nearest_table) (ps := ["table"]) X G a35 l35 c35 k35 (fun _ _ _ _ _ _ us hl => match us, hl with | [_], _ => rfl)
  have d_nested_within := df_mk (st := s_nested_within) (ps := ["table", "most"]) X G a36 l36 c36 k36 (fun _ _ _ _ _ _ us hl => match us, hl with | [_, _], _ => rfl)
  have d_tree_of := df_mk (st := s_tree_of) (ps := ["table"]) X G a37 l37 c37 k37 (fun _ _ _ _ _ _ us hl => match us, hl with | [_], _ => rfl)
  have d_items_of := df_mk (st := s_items_of) (ps := ["tree"]) X G a38 l38 c38 k38 (fun _ _ _ _ _ _ us hl => match us, hl with | [_], _ => rfl)
  have d_level_in := df_mk (st := s_level_in) (ps := ["tree", "one", "other"]) X G a39 l39 c39 k39 (fun _ _ _ _ _ _ us hl => match us, hl with | [_, _, _], _ => rfl)
  have d_table_of := df_mk (st := s_table_of) (ps := ["tree"]) X G a40 l40 c40 k40 (fun _ _ _ _ _ _ us hl => match us, hl with | [_], _ => rfl)
  have d_is_part := df_mk (st := s_is_part) (ps := ["value", "above"]) X G a41 l41 c41 k41 (fun _ _ _ _ _ _ us hl => match us, hl with | [_, _], _ => rfl)
  have d_is_tree := df_mk (st := s_is_tree) (ps := ["value"]) X G a42 l42 c42 k42 (fun _ _ _ _ _ _ us hl => match us, hl with | [_], _ => rfl)
  have d_is_order := df_mk (st := s_is_order) (ps := ["table", "value"]) X G a43 l43 c43 k43 (fun _ _ _ _ _ _ us hl => match us, hl with | [_, _], _ => rfl)
  have d_relabeled := df_mk (st := s_relabeled) (ps := ["table", "order"]) X G a44 l44 c44 k44 (fun _ _ _ _ _ _ us hl => match us, hl with | [_, _], _ => rfl)
  have d_L_draws := df_mk (st := s_L_draws) (ps := ["_law_script"]) X G a45 l45 c45 k45 (fun _ _ _ _ _ _ us hl => match us, hl with | [_], _ => rfl)
  have d_L_next := df_mk (st := s_L_next) (ps := ["_law_drawn", "_law_many"]) X G a46 l46 c46 k46 (fun _ _ _ _ _ _ us hl => match us, hl with | [_, _], _ => rfl)
  have d_L_one := df_mk (st := s_L_one) (ps := ["_law_drawn", "_law_items"]) X G a47 l47 c47 k47 (fun _ _ _ _ _ _ us hl => match us, hl with | [_, _], _ => rfl)
  have d_L_equal := df_mk (st := s_L_equal) (ps := ["_law_one_here", "_law_other"]) X G a48 l48 c48 k48 (fun _ _ _ _ _ _ us hl => match us, hl with | [_, _], _ => rfl)
  have d_L_count := df_mk (st := s_L_count) (ps := ["_law_drawn", "_law_most"]) X G a49 l49 c49 k49 (fun _ _ _ _ _ _ us hl => match us, hl with | [_, _], _ => rfl)
  have d_L_grades := df_mk (st := s_L_grades) (ps := ["_law_drawn"]) X G a50 l50 c50 k50 (fun _ _ _ _ _ _ us hl => match us, hl with | [_], _ => rfl)
  have d_L_level := df_mk (st := s_L_level) (ps := ["_law_table_here", "_law_one_here", "_law_other"]) X G a51 l51 c51 k51 (fun _ _ _ _ _ _ us hl => match us, hl with | [_, _, _], _ => rfl)
  have d_L_nested := df_mk (st := s_L_nested) (ps := ["_law_drawn", "_law_count_here", "_law_grades_here"]) X G a52 l52 c52 k52 (fun _ _ _ _ _ _ us hl => match us, hl with | [_, _, _], _ => rfl)
  have d_L_raised := df_mk (st := s_L_raised) (ps := ["_law_drawn", "_law_table_here", "_law_grades_here"]) X G a53 l53 c53 k53 (fun _ _ _ _ _ _ us hl => match us, hl with | [_, _, _], _ => rfl)
  have d_L_levels := df_mk (st := s_L_levels) (ps := ["_law_drawn", "_law_many", "_law_grades_here"]) X G a54 l54 c54 k54 (fun _ _ _ _ _ _ us hl => match us, hl with | [_, _, _], _ => rfl)
  have d_L_any := df_mk (st := s_L_any) (ps := ["_law_drawn", "_law_many", "_law_wide"]) X G a55 l55 c55 k55 (fun _ _ _ _ _ _ us hl => match us, hl with | [_, _, _], _ => rfl)
  have d_L_table := df_mk (st := s_L_table) (ps := ["_law_drawn", "_law_count_here"]) X G a56 l56 c56 k56 (fun _ _ _ _ _ _ us hl => match us, hl with | [_, _], _ => rfl)
  have d_L_tree_read := df_mk (st := s_L_tree_read) (ps := ["_law_words"]) X G a57 l57 c57 k57 (fun _ _ _ _ _ _ us hl => match us, hl with | [_], _ => rfl)
  have d_L_tree_right := df_mk (st := s_L_tree_right) (ps := ["_law_table_here"]) X G a58 l58 c58 k58 (fun _ _ _ _ _ _ us hl => match us, hl with | [_], _ => rfl)
  have d_L_board_right := df_mk (st := s_L_board_right) (ps := ["_law_table_here"]) X G a59 l59 c59 k59 (fun _ _ _ _ _ _ us hl => match us, hl with | [_], _ => rfl)
  have con_Board_LIMIT : Con K C_Board "LIMIT" (.int 60) (.int 60 t_Board_LIMIT) := ⟨kn_Board_LIMIT, ⟨_, rfl⟩, kg_Board_LIMIT, by decide +kernel⟩
  have con_Board_NESTED : Con K C_Board "NESTED" (.bl false) (.bool false) := ⟨kn_Board_NESTED, rfl, kg_Board_NESTED, by decide +kernel⟩
  have cl_Board : Cls K C_Board := ⟨pg_Board, hd_Board, po_Board, sa_Board⟩
  have g_Board : mg "Board" = some (.ref C_Board) := PySem.W.mg_of X G aC_Board
  have ob_Board : ObC K mg "Board" C_Board := ⟨g_Board, cl_Board, mk_Board, kc_Board, ha_Board, hn_Board, ht_Board, hm_Board, tC_Board⟩
  have fu_Board_init := fun_mk (st := s_Board_init) l_Board_init c_Board_init k_Board_init
  have bi_Board_init := fu_Board_init.binds (ps := ["self", "table"]) fun _ _ _ _ _ _ us hl => match us, hl with | [_, _], _ => rfl
  have m_Board_init : Md K C_Board "__init__" "Board.__init__" s_Board_init f_Board_init _ ["self", "table"] := ⟨⟨a_Board_init, i_Board_init, k_Board_init⟩, w_Board_init, fu_Board_init, bi_Board_init⟩
  have fu_Board_read := fun_mk (st := s_Board_read) l_Board_read c_Board_read k_Board_read
  have bi_Board_read := fu_Board_read.binds (ps := ["cls", "text"]) fun _ _ _ _ _ _ us hl => match us, hl with | [_, _], _ => rfl
  have m_Board_read : ClX.CMet K C_Board (.type "type") "read" p_Board_read f_Board_read := ⟨cmB_of a_Board_read, ⟨_, pr_Board_read⟩, w_Board_read⟩
  have fu_Board_cut := fun_mk (st := s_Board_cut) l_Board_cut c_Board_cut k_Board_cut
  have bi_Board_cut := fu_Board_cut.binds (ps := ["self"]) fun _ _ _ _ _ _ us hl => match us, hl with | [_], _ => rfl
  have m_Board_cut : Pd K C_Board "cut" "Board.cut" s_Board_cut f_Board_cut _ := ⟨⟨_, ⟨a_Board_cut, pg_Board_cut, pt_Board_cut, _, pr_Board_cut⟩⟩, fu_Board_cut, bi_Board_cut⟩
  have fu_Board_groups := fun_mk (st := s_Board_groups) l_Board_groups c_Board_groups k_Board_groups
  have bi_Board_groups := fu_Board_groups.binds (ps := ["self"]) fun _ _ _ _ _ _ us hl => match us, hl with | [_], _ => rfl
  have m_Board_groups : Pd K C_Board "groups" "Board.groups" s_Board_groups f_Board_groups _ := ⟨⟨_, ⟨a_Board_groups, pg_Board_groups, pt_Board_groups, _, pr_Board_groups⟩⟩, fu_Board_groups, bi_Board_groups⟩
  have fu_Board_top := fun_mk (st := s_Board_top) l_Board_top c_Board_top k_Board_top
  have bi_Board_top := fu_Board_top.binds (ps := ["self"]) fun _ _ _ _ _ _ us hl => match us, hl with | [_], _ => rfl
  have m_Board_top : Pd K C_Board "top" "Board.top" s_Board_top f_Board_top _ := ⟨⟨_, ⟨a_Board_top, pg_Board_top, pt_Board_top, _, pr_Board_top⟩⟩, fu_Board_top, bi_Board_top⟩
  have fu_Board_call := fun_mk (st := s_Board_call) l_Board_call c_Board_call k_Board_call
  have bi_Board_call := fu_Board_call.binds (ps := ["self", "level"]) fun _ _ _ _ _ _ us hl => match us, hl with | [_, _], _ => rfl
  have m_Board_call : Md K C_Board "__call__" "Board.__call__" s_Board_call f_Board_call _ ["self", "level"] := ⟨⟨a_Board_call, i_Board_call, k_Board_call⟩, w_Board_call, fu_Board_call, bi_Board_call⟩
  have fu_Board_contains := fun_mk (st := s_Board_contains) l_Board_contains c_Board_contains k_Board_contains
  have bi_Board_contains := fu_Board_contains.binds (ps := ["self", "value"]) fun _ _ _ _ _ _ us hl => match us, hl with | [_, _], _ => rfl
  have m_Board_contains : Md K C_Board "__contains__" "Board.__contains__" s_Board_contains f_Board_contains _ ["self", "value"] := ⟨⟨a_Board_contains, i_Board_contains, k_Board_contains⟩, w_Board_contains, fu_Board_contains, bi_Board_contains⟩
  have fu_Board_table := fun_mk (st := s_Board_table) l_Board_table c_Board_table k_Board_table
  have bi_Board_table := fu_Board_table.binds (ps := ["self"]) fun _ _ _ _ _ _ us hl => match us, hl with | [_], _ => rfl
  have m_Board_table : Md K C_Board "table" "Board.table" s_Board_table f_Board_table _ ["self"] := ⟨⟨a_Board_table, i_Board_table, k_Board_table⟩, w_Board_table, fu_Board_table, bi_Board_table⟩
  have fu_Board_nested := fun_mk (st := s_Board_nested) l_Board_nested c_Board_nested k_Board_nested
  have bi_Board_nested := fu_Board_nested.binds (ps := ["self"]) fun _ _ _ _ _ _ us hl => match us, hl with | [_], _ => rfl
  have m_Board_nested : Md K C_Board "nested" "Board.nested" s_Board_nested f_Board_nested _ ["self"] := ⟨⟨a_Board_nested, i_Board_nested, k_Board_nested⟩, w_Board_nested, fu_Board_nested, bi_Board_nested⟩
  have fu_Board_joins := fun_mk (st := s_Board_joins) l_Board_joins c_Board_joins k_Board_joins
  have bi_Board_joins := fu_Board_joins.binds (ps := ["self"]) fun _ _ _ _ _ _ us hl => match us, hl with | [_], _ => rfl
  have m_Board_joins : Md K C_Board "joins" "Board.joins" s_Board_joins f_Board_joins _ ["self"] := ⟨⟨a_Board_joins, i_Board_joins, k_Board_joins⟩, w_Board_joins, fu_Board_joins, bi_Board_joins⟩
  have fu_Board_actions := fun_mk (st := s_Board_actions) l_Board_actions c_Board_actions k_Board_actions
  have bi_Board_actions := fu_Board_actions.binds (ps := ["self"]) fun _ _ _ _ _ _ us hl => match us, hl with | [_], _ => rfl
  have m_Board_actions : Md K C_Board "actions" "Board.actions" s_Board_actions f_Board_actions _ ["self"] := ⟨⟨a_Board_actions, i_Board_actions, k_Board_actions⟩, w_Board_actions, fu_Board_actions, bi_Board_actions⟩
  have fu_Board_len := fun_mk (st := s_Board_len) l_Board_len c_Board_len k_Board_len
  have bi_Board_len := fu_Board_len.binds (ps := ["self"]) fun _ _ _ _ _ _ us hl => match us, hl with | [_], _ => rfl
  have m_Board_len : Md K C_Board "__len__" "Board.__len__" s_Board_len f_Board_len _ ["self"] := ⟨⟨a_Board_len, i_Board_len, k_Board_len⟩, w_Board_len, fu_Board_len, bi_Board_len⟩
  have fu_Board_eq := fun_mk (st := s_Board_eq) l_Board_eq c_Board_eq k_Board_eq
  have bi_Board_eq := fu_Board_eq.binds (ps := ["self", "other"]) fun _ _ _ _ _ _ us hl => match us, hl with | [_, _], _ => rfl
  have m_Board_eq : Md K C_Board "__eq__" "Board.__eq__" s_Board_eq f_Board_eq _ ["self", "other"] := ⟨⟨a_Board_eq, i_Board_eq, k_Board_eq⟩, w_Board_eq, fu_Board_eq, bi_Board_eq⟩
  have fu_Board_str := fun_mk (st := s_Board_str) l_Board_str c_Board_str k_Board_str
  have bi_Board_str := fu_Board_str.binds (ps := ["self"]) fun _ _ _ _ _ _ us hl => match us, hl with | [_], _ => rfl
  have m_Board_str : Md K C_Board "__str__" "Board.__str__" s_Board_str f_Board_str _ ["self"] := ⟨⟨a_Board_str, i_Board_str, k_Board_str⟩, w_Board_str, fu_Board_str, bi_Board_str⟩
  have TD : DrawDefs K mg := ⟨B, ⟨_, _, d_L_next⟩, ⟨_, _, d_L_one⟩, ⟨_, _, d_L_count⟩, ⟨_, _, d_L_grades⟩, ⟨_, _, d_L_level⟩, ⟨_, _, d_L_nested⟩, ⟨_, _, d_L_raised⟩, ⟨_, _, d_L_levels⟩, ⟨_, _, d_L_any⟩⟩
  have gr : GridDefs K mg := ⟨B, ⟨_, _, d_level_between⟩, ⟨_, _, d_level_grid⟩, ⟨_, _, d_lowest_grid⟩, ⟨_, _, d_join_grid⟩⟩
  have TR : TreeDefs K mg := ⟨⟨gr, ⟨_, _, d_group_of⟩, ⟨_, _, d_all_groups⟩⟩, g_LEVEL, g_ITEMS, ⟨_, _, d_steps_of⟩, ⟨_, _, d_joins_of⟩, ⟨_, _, d_tree_of⟩, ⟨_, _, d_nested_below⟩, ⟨_, _, d_L_tree_read⟩, ⟨_, _, d_format_tree⟩, ⟨_, _, d_is_tree⟩, ⟨_, _, d_is_part⟩, ⟨_, _, d_is_whole⟩, ⟨_, _, d_is_level⟩, ⟨_, _, d_items_of⟩, ⟨_, _, d_level_in⟩, ⟨_, _, d_table_of⟩, ⟨_, _, d_L_equal⟩⟩
  have TN : NearDefs K mg := ⟨⟨gr, ⟨_, _, d_pairs_of⟩, ⟨_, _, d_widest_pair⟩, ⟨_, _, d_greatest_gap⟩⟩, ⟨_, _, d_least_deviation⟩, ⟨_, _, d_levels_of⟩, ⟨_, _, d_nested_below⟩, ⟨_, _, d_raised_joins⟩, g_LEVEL⟩
  have bq : Bq80 K mg C_Board false := ⟨B, ⟨B, g_LEVEL, g_ITEMS, ⟨_, _, d_is_whole⟩, ⟨_, _, d_is_level⟩, ⟨_, _, d_find_row_fault⟩⟩, cl_Board, nf_kept_Board, nf_tables_Board, nf_level_Board, nf_busy_Board, nf_rows_Board, ⟨_, con_Board_NESTED⟩, ⟨_, _, d_find_fault⟩⟩
  have br : BrDefs K mg C_Board C_Board (.type "type") p_Board_read f_Board_read false := ⟨bq, gr, ⟨g_Board, cl_Board, ha_Board, hn_Board, ht_Board, hm_Board, ki_Board⟩, g_Board, ⟨rd_Board, ga_Board⟩, m_Board_read, ⟨_, fu_Board_read, bi_Board_read⟩, ⟨_, _, ⟨mk_Board, m_Board_init.M.at_, m_Board_init.M.fn, kc_Board⟩, m_Board_init.F, m_Board_init.b⟩, ⟨_, _, m_Board_table⟩, ⟨_, _, m_Board_nested⟩, ⟨_, _, m_Board_len⟩, ⟨_, _, m_Board_eq⟩, ⟨_, _, d_nested_below⟩, ⟨_, _, d_format_table⟩, ⟨_, _, d_joined⟩, ⟨_, _, d_L_equal⟩⟩
  have T : LawDefs K mg := ⟨⟨TD, TR, TN, g_DIGITS, ⟨_, _, d_L_draws⟩, ⟨_, _, d_L_table⟩, ⟨_, _, d_L_tree_right⟩, ⟨_, _, d_nearest_table⟩, ⟨_, _, d_nested_within⟩, ⟨_, _, d_relabeled⟩, ⟨_, _, d_is_order⟩, ⟨_, _, d_picked⟩, ⟨_, _, d_is_item⟩, ⟨_, _, d_level_between⟩, ⟨_, _, d_joined⟩, ⟨_, _, d_format_table⟩, ⟨_, _, d_count_in⟩, ⟨_, _, d_row_in⟩, ⟨_, _, d_number_of⟩, ⟨_, _, d_parse_lines⟩, ⟨_, _, d_parse_table⟩⟩, ⟨_, _, _, _, _, br⟩, ⟨_, _, d_L_board_right⟩⟩
  exact ⟨PySem.W.fnOf "law" "law" (defArgs s_law) (defBody s_law) (defScope s_law) .none kV60 dc60 pm60 an60 cd60 ct60, fun s v => .of_eq rfl, fun base _ _ => ok_law (fun_mk l60 c60 k60) T⟩
set_option maxHeartbeats 0 in
theorem hfacts {w : World} {K : PySem.W.Frag} {h : Heap} {mg : Str → Option Value} {fa : Addr} (X : K.In h) (G : h.Ns mainGlobals mg) (hfa : mg "law" = some (.ref fa)) (c : Says2 hfs hfn K) (ch : hhx K = hhv w) :
    ∃ fd : FuncData, (∀ (s : Shared) (v : Value), BindsTo s fd ⟨[v], []⟩ [("_law_script", v)]) ∧ ∀ base : Heap, K.In base → base.Ns mainGlobals mg → FnOk PySem.Challenge.rw_mergelevels_k80_whole_texts_there_and_ba.prog w K mg base CX0 18 fa fd ["_law_script"] (sp_law K) := by
  have a1 : PySem.W.nsIn K mainGlobals "is_whole" = some (some (.ref (He.ga K "is_whole"))) := of_decide_eq_true (c.fact 0 0)
  obtain ⟨_, _, _, kv_l1, _, _, _, _, _, l1, cc_l1⟩ := c.def_ 0 (d := ⟨fun K => (He.ga K "is_whole"), "is_whole", "is_whole", (defArgs s_is_whole), (defBody s_is_whole), (defScope s_is_whole)⟩) (by rfl)
  have k1 : PySem.W.keepIn K (.ref (He.ga K "is_whole")) = true := c.fact 0 1
  have a2 : PySem.W.nsIn K mainGlobals "is_level" = some (some (.ref (He.ga K "is_level"))) := of_decide_eq_true (c.fact 0 2)
  obtain ⟨_, _, _, kv_l2, _, _, _, _, _, l2, cc_l2⟩ := c.def_ 1 (d := ⟨fun K => (He.ga K "is_level"), "is_level", "is_level", (defArgs s_is_level), (defBody s_is_level), (defScope s_is_level)⟩) (by rfl)
  have k2 : PySem.W.keepIn K (.ref (He.ga K "is_level")) = true := c.fact 0 3
  have a3 : PySem.W.nsIn K mainGlobals "is_item" = some (some (.ref (He.ga K "is_item"))) := of_decide_eq_true (c.fact 0 4)
  obtain ⟨_, _, _, kv_l3, _, _, _, _, _, l3, cc_l3⟩ := c.def_ 2 (d := ⟨fun K => (He.ga K "is_item"), "is_item", "is_item", (defArgs s_is_item), (defBody s_is_item), (defScope s_is_item)⟩) (by rfl)
  have k3 : PySem.W.keepIn K (.ref (He.ga K "is_item")) = true := c.fact 0 5
  have a4 : PySem.W.nsIn K mainGlobals "find_row_fault" = some (some (.ref (He.ga K "find_row_fault"))) := of_decide_eq_true (c.fact 0 6)
  obtain ⟨_, _, _, kv_l4, _, _, _, _, _, l4, cc_l4⟩ := c.def_ 3 (d := ⟨fun K => (He.ga K "find_row_fault"), "find_row_fault", "find_row_fault", (defArgs s_find_row_fault), (defBody s_find_row_fault), (defScope s_find_row_fault)⟩) (by rfl)
  have k4 : PySem.W.keepIn K (.ref (He.ga K "find_row_fault")) = true := c.fact 0 7
  have a5 : PySem.W.nsIn K mainGlobals "find_fault" = some (some (.ref (He.ga K "find_fault"))) := of_decide_eq_true (c.fact 0 8)
  obtain ⟨_, _, _, kv_l5, _, _, _, _, _, l5, cc_l5⟩ := c.def_ 4 (d := ⟨fun K => (He.ga K "find_fault"), "find_fault", "find_fault", (defArgs s_find_fault), (defBody s_find_fault), (defScope s_find_fault)⟩) (by rfl)
  have k5 : PySem.W.keepIn K (.ref (He.ga K "find_fault")) = true := c.fact 0 9
  have a6 : PySem.W.nsIn K mainGlobals "level_between" = some (some (.ref (He.ga K "level_between"))) := of_decide_eq_true (c.fact 0 10)
  obtain ⟨_, _, _, kv_l6, _, _, _, _, _, l6, cc_l6⟩ := c.def_ 5 (d := ⟨fun K => (He.ga K "level_between"), "level_between", "level_between", (defArgs s_level_between), (defBody s_level_between), (defScope s_level_between)⟩) (by rfl)
  have k6 : PySem.W.keepIn K (.ref (He.ga K "level_between")) = true := c.fact 0 11
  have a7 : PySem.W.nsIn K mainGlobals "levels_of" = some (some (.ref (He.ga K "levels_of"))) := of_decide_eq_true (c.fact 0 12)
  obtain ⟨_, _, _, kv_l7, _, _, _, _, _, l7, cc_l7⟩ := c.def_ 6 (d := ⟨fun K => (He.ga K "levels_of"), "levels_of", "levels_of", (defArgs s_levels_of), (defBody s_levels_of), (defScope s_levels_of)⟩) (by rfl)
  have k7 : PySem.W.keepIn K (.ref (He.ga K "levels_of")) = true := c.fact 0 13
  have a8 : PySem.W.nsIn K mainGlobals "pairs_of" = some (some (.ref (He.ga K "pairs_of"))) := of_decide_eq_true (c.fact 0 14)
  obtain ⟨_, _, _, kv_l8, _, _, _, _, _, l8, cc_l8⟩ := c.def_ 7 (d := ⟨fun K => (He.ga K "pairs_of"), "pairs_of", "pairs_of", (defArgs s_pairs_of), (defBody s_pairs_of), (defScope s_pairs_of)⟩) (by rfl)
  have k8 : PySem.W.keepIn K (.ref (He.ga K "pairs_of")) = true := c.fact 0 15
  have a9 : PySem.W.nsIn K mainGlobals "number_of" = some (some (.ref (He.ga K "number_of"))) := of_decide_eq_true (c.fact 0 16)
  obtain ⟨_, _, _, kv_l9, _, _, _, _, _, l9, cc_l9⟩ := c.def_ 8 (d := ⟨fun K => (He.ga K "number_of"), "number_of", "number_of", (defArgs s_number_of), (defBody s_number_of), (defScope s_number_of)⟩) (by rfl)
  have k9 : PySem.W.keepIn K (.ref (He.ga K "number_of")) = true := c.fact 0 17
  have a10 : PySem.W.nsIn K mainGlobals "joined" = some (some (.ref (He.ga K "joined"))) := of_decide_eq_true (c.fact 0 18)
  obtain ⟨_, _, _, kv_l10, _, _, _, _, _, l10, cc_l10⟩ := c.def_ 9 (d := ⟨fun K => (He.ga K "joined"), "joined", "joined", (defArgs s_joined), (defBody s_joined), (defScope s_joined)⟩) (by rfl)
  have k10 : PySem.W.keepIn K (.ref (He.ga K "joined")) = true := c.fact 0 19
  have a11 : PySem.W.nsIn K mainGlobals "format_table" = some (some (.ref (He.ga K "format_table"))) := of_decide_eq_true (c.fact 0 20)
  obtain ⟨_, _, _, kv_l11, _, _, _, _, _, l11, cc_l11⟩ := c.def_ 10 (d := ⟨fun K => (He.ga K "format_table"), "format_table", "format_table", (defArgs s_format_table), (defBody s_format_table), (defScope s_format_table)⟩) (by rfl)
  have k11 : PySem.W.keepIn K (.ref (He.ga K "format_table")) = true := c.fact 0 21
  have a12 : PySem.W.nsIn K mainGlobals "format_tree" = some (some (.ref (He.ga K "format_tree"))) := of_decide_eq_true (c.fact 0 22)
  obtain ⟨_, _, _, kv_l12, _, _, _, _, _, l12, cc_l12⟩ := c.def_ 11 (d := ⟨fun K => (He.ga K "format_tree"), "format_tree", "format_tree", (defArgs s_format_tree), (defBody s_format_tree), (defScope s_format_tree)⟩) (by rfl)
  have k12 : PySem.W.keepIn K (.ref (He.ga K "format_tree")) = true := c.fact 0 23
  have a13 : PySem.W.nsIn K mainGlobals "count_in" = some (some (.ref (He.ga K "count_in"))) := of_decide_eq_true (c.fact 0 24)
  obtain ⟨_, _, _, kv_l13, _, _, _, _, _, l13, cc_l13⟩ := c.def_ 12 (d := ⟨fun K => (He.ga K "count_in"), "count_in", "count_in", (defArgs s_count_in), (defBody s_count_in), (defScope s_count_in)⟩) (by rfl)
  have k13 : PySem.W.keepIn K (.ref (He.ga K "count_in")) = true := c.fact 0 25
  have a14 : PySem.W.nsIn K mainGlobals "row_in" = some (some (.ref (He.ga K "row_in"))) := of_decide_eq_true (c.fact 0 26)
  obtain ⟨_, _, _, kv_l14, _, _, _, _, _, l14, cc_l14⟩ := c.def_ 13 (d := ⟨fun K => (He.ga K "row_in"), "row_in", "row_in", (defArgs s_row_in), (defBody s_row_in), (defScope s_row_in)⟩) (by rfl)
  have k14 : PySem.W.keepIn K (.ref (He.ga K "row_in")) = true := c.fact 0 27
  have a15 : PySem.W.nsIn K mainGlobals "parse_lines" = some (some (.ref (He.ga K "parse_lines"))) := of_decide_eq_true (c.fact 0 28)
  obtain ⟨_, _, _, kv_l15, _, _, _, _, _, l15, cc_l15⟩ := c.def_ 14 (d := ⟨fun K => (He.ga K "parse_lines"), "parse_lines", "parse_lines", (defArgs s_parse_lines), (defBody s_parse_lines), (defScope s_parse_lines)⟩) (by rfl)
  have k15 : PySem.W.keepIn K (.ref (He.ga K "parse_lines")) = true := c.fact 0 29
  have a16 : PySem.W.nsIn K mainGlobals "parse_table" = some (some (.ref (He.ga K "parse_table"))) := of_decide_eq_true (c.fact 0 30)
  obtain ⟨_, _, _, kv_l16, _, _, _, _, _, l16, cc_l16⟩ := c.def_ 15 (d := ⟨fun K => (He.ga K "parse_table"), "parse_table", "parse_table", (defArgs s_parse_table), (defBody s_parse_table), (defScope s_parse_table)⟩) (by rfl)
  have k16 : PySem.W.keepIn K (.ref (He.ga K "parse_table")) = true := c.fact 0 31
  have a17 : PySem.W.nsIn K mainGlobals "level_grid" = some (some (.ref (He.ga K "level_grid"))) := of_decide_eq_true (c.fact 0 32)
  obtain ⟨_, _, _, kv_l17, _, _, _, _, _, l17, cc_l17⟩ := c.def_ 16 (d := ⟨fun K => (He.ga K "level_grid"), "level_grid", "level_grid", (defArgs s_level_grid), (defBody s_level_grid), (defScope s_level_grid)⟩) (by rfl)
  have k17 : PySem.W.keepIn K (.ref (He.ga K "level_grid")) = true := c.fact 0 33
  have a18 : PySem.W.nsIn K mainGlobals "lowest_grid" = some (some (.ref (He.ga K "lowest_grid"))) := of_decide_eq_true (c.fact 0 34)
  obtain ⟨_, _, _, kv_l18, _, _, _, _, _, l18, cc_l18⟩ := c.def_ 17 (d := ⟨fun K => (He.ga K "lowest_grid"), "lowest_grid", "lowest_grid", (defArgs s_lowest_grid), (defBody s_lowest_grid), (defScope s_lowest_grid)⟩) (by rfl)
  have k18 : PySem.W.keepIn K (.ref (He.ga K "lowest_grid")) = true := c.fact 0 35
  have a19 : PySem.W.nsIn K mainGlobals "join_grid" = some (some (.ref (He.ga K "join_grid"))) := of_decide_eq_true (c.fact 0 36)
  obtain ⟨_, _, _, kv_l19, _, _, _, _, _, l19, cc_l19⟩ := c.def_ 18 (d := ⟨fun K => (He.ga K "join_grid"), "join_grid", "join_grid", (defArgs s_join_grid), (defBody s_join_grid), (defScope s_join_grid)⟩) (by rfl)
  have k19 : PySem.W.keepIn K (.ref (He.ga K "join_grid")) = true := c.fact 0 37
  have a20 : PySem.W.nsIn K mainGlobals "nested_below" = some (some (.ref (He.ga K "nested_below"))) := of_decide_eq_true (c.fact 0 38)
  obtain ⟨_, _, _, kv_l20, _, _, _, _, _, l20, cc_l20⟩ := c.def_ 19 (d := ⟨fun K => (He.ga K "nested_below"), "nested_below", "nested_below", (defArgs s_nested_below), (defBody s_nested_below), (defScope s_nested_below)⟩) (by rfl)
  have k20 : PySem.W.keepIn K (.ref (He.ga K "nested_below")) = true := c.fact 0 39
  have a21 : PySem.W.nsIn K mainGlobals "is_path" = some (some (.ref (He.ga K "is_path"))) := of_decide_eq_true (c.fact 0 40)
  obtain ⟨_, _, _, kv_l21, _, _, _, _, _, l21, cc_l21⟩ := c.def_ 20 (d := ⟨fun K => (He.ga K "is_path"), "is_path", "is_path", (defArgs s_is_path), (defBody s_is_path), (defScope s_is_path)⟩) (by rfl)
  have k21 : PySem.W.keepIn K (.ref (He.ga K "is_path")) = true := c.fact 0 41
  have a22 : PySem.W.nsIn K mainGlobals "group_of" = some (some (.ref (He.ga K "group_of"))) := of_decide_eq_true (c.fact 0 42)
  obtain ⟨_, _, _, kv_l22, _, _, _, _, _, l22, cc_l22⟩ := c.def_ 21 (d := ⟨fun K => (He.ga K "group_of"), "group_of", "group_of", (defArgs s_group_of), (defBody s_group_of), (defScope s_group_of)⟩) (by rfl)
  have k22 : PySem.W.keepIn K (.ref (He.ga K "group_of")) = true := c.fact 0 43
  have a23 : PySem.W.nsIn K mainGlobals "all_groups" = some (some (.ref (He.ga K "all_groups"))) := of_decide_eq_true (c.fact 0 44)
  obtain ⟨_, _, _, kv_l23, _, _, _, _, _, l23, cc_l23⟩ := c.def_ 22 (d := ⟨fun K => (He.ga K "all_groups"), "all_groups", "all_groups", (defArgs s_all_groups), (defBody s_all_groups), (defScope s_all_groups)⟩) (by rfl)
  have k23 : PySem.W.keepIn K (.ref (He.ga K "all_groups")) = true := c.fact 0 45
  have a24 : PySem.W.nsIn K mainGlobals "steps_of" = some (some (.ref (He.ga K "steps_of"))) := of_decide_eq_true (c.fact 0 46)
  obtain ⟨_, _, _, kv_l24, _, _, _, _, _, l24, cc_l24⟩ := c.def_ 23 (d := ⟨fun K => (He.ga K "steps_of"), "steps_of", "steps_of", (defArgs s_steps_of), (defBody s_steps_of), (defScope s_steps_of)⟩) (by rfl)
  have k24 : PySem.W.keepIn K (.ref (He.ga K "steps_of")) = true := c.fact 0 47
  have a25 : PySem.W.nsIn K mainGlobals "groups_at" = some (some (.ref (He.ga K "groups_at"))) := of_decide_eq_true (c.fact 0 48)
  obtain ⟨_, _, _, kv_l25, _, _, _, _, _, l25, cc_l25⟩ := c.def_ 24 (d := ⟨fun K => (He.ga K "groups_at"), "groups_at", "groups_at", (defArgs s_groups_at), (defBody s_groups_at), (defScope s_groups_at)⟩) (by rfl)
  have k25 : PySem.W.keepIn K (.ref (He.ga K "groups_at")) = true := c.fact 0 49
  have a26 : PySem.W.nsIn K mainGlobals "clusters_of" = some (some (.ref (He.ga K "clusters_of"))) := of_decide_eq_true (c.fact 0 50)
  obtain ⟨_, _, _, kv_l26, _, _, _, _, _, l26, cc_l26⟩ := c.def_ 25 (d := ⟨fun K => (He.ga K "clusters_of"), "clusters_of", "clusters_of", (defArgs s_clusters_of), (defBody s_clusters_of), (defScope s_clusters_of)⟩) (by rfl)
  have k26 : PySem.W.keepIn K (.ref (He.ga K "clusters_of")) = true := c.fact 0 51
  have a27 : PySem.W.nsIn K mainGlobals "is_cluster" = some (some (.ref (He.ga K "is_cluster"))) := of_decide_eq_true (c.fact 0 52)
  obtain ⟨_, _, _, kv_l27, _, _, _, _, _, l27, cc_l27⟩ := c.def_ 26 (d := ⟨fun K => (He.ga K "is_cluster"), "is_cluster", "is_cluster", (defArgs s_is_cluster), (defBody s_is_cluster), (defScope s_is_cluster)⟩) (by rfl)
  have k27 : PySem.W.keepIn K (.ref (He.ga K "is_cluster")) = true := c.fact 0 53
  have a28 : PySem.W.nsIn K mainGlobals "joins_of" = some (some (.ref (He.ga K "joins_of"))) := of_decide_eq_true (c.fact 0 54)
  obtain ⟨_, _, _, kv_l28, _, _, _, _, _, l28, cc_l28⟩ := c.def_ 27 (d := ⟨fun K => (He.ga K "joins_of"), "joins_of", "joins_of", (defArgs s_joins_of), (defBody s_joins_of), (defScope s_joins_of)⟩) (by rfl)
  have k28 : PySem.W.keepIn K (.ref (He.ga K "joins_of")) = true := c.fact 0 55
  have a29 : PySem.W.nsIn K mainGlobals "picked" = some (some (.ref (He.ga K "picked"))) := of_decide_eq_true (c.fact 0 56)
  obtain ⟨_, _, _, kv_l29, _, _, _, _, _, l29, cc_l29⟩ := c.def_ 28 (d := ⟨fun K => (He.ga K "picked"), "picked", "picked", (defArgs s_picked), (defBody s_picked), (defScope s_picked)⟩) (by rfl)
  have k29 : PySem.W.keepIn K (.ref (He.ga K "picked")) = true := c.fact 0 57
  have a30 : PySem.W.nsIn K mainGlobals "check_cut" = some (some (.ref (He.ga K "check_cut"))) := of_decide_eq_true (c.fact 0 58)
  obtain ⟨_, _, _, kv_l30, _, _, _, _, _, l30, cc_l30⟩ := c.def_ 29 (d := ⟨fun K => (He.ga K "check_cut"), "check_cut", "check_cut", (defArgs s_check_cut), (defBody s_check_cut), (defScope s_check_cut)⟩) (by rfl)
  have k30 : PySem.W.keepIn K (.ref (He.ga K "check_cut")) = true := c.fact 0 59
  have a31 : PySem.W.nsIn K mainGlobals "widest_pair" = some (some (.ref (He.ga K "widest_pair"))) := of_decide_eq_true (c.fact 0 60)
  obtain ⟨_, _, _, kv_l31, _, _, _, _, _, l31, cc_l31⟩ := c.def_ 30 (d := ⟨fun K => (He.ga K "widest_pair"), "widest_pair", "widest_pair", (defArgs s_widest_pair), (defBody s_widest_pair), (defScope s_widest_pair)⟩) (by rfl)
  have k31 : PySem.W.keepIn K (.ref (He.ga K "widest_pair")) = true := c.fact 0 61
  have a32 : PySem.W.nsIn K mainGlobals "greatest_gap" = some (some (.ref (He.ga K "greatest_gap"))) := of_decide_eq_true (c.fact 0 62)
  obtain ⟨_, _, _, kv_l32, _, _, _, _, _, l32, cc_l32⟩ := c.def_ 31 (d := ⟨fun K => (He.ga K "greatest_gap"), "greatest_gap", "greatest_gap", (defArgs s_greatest_gap), (defBody s_greatest_gap), (defScope s_greatest_gap)⟩) (by rfl)
  have k32 : PySem.W.keepIn K (.ref (He.ga K "greatest_gap")) = true := c.fact 0 63
  have a33 : PySem.W.nsIn K mainGlobals "least_deviation" = some (some (.ref (He.ga K "least_deviation"))) := of_decide_eq_true (c.fact 0 64)
  obtain ⟨_, _, _, kv_l33, _, _, _, _, _, l33, cc_l33⟩ := c.def_ 32 (d := ⟨fun K => (He.ga K "least_deviation"), "least_deviation", "least_deviation", (defArgs s_least_deviation), (defBody s_least_deviation), (defScope s_least_deviation)⟩) (by rfl)
  have k33 : PySem.W.keepIn K (.ref (He.ga K "least_deviation")) = true := c.fact 0 65
  have a34 : PySem.W.nsIn K mainGlobals "raised_joins" = some (some (.ref (He.ga K "raised_joins"))) := of_decide_eq_true (c.fact 0 66)
  obtain ⟨_, _, _, kv_l34, _, _, _, _, _, l34, cc_l34⟩ := c.def_ 33 (d := ⟨fun K => (He.ga K "raised_joins"), "raised_joins", "raised_joins", (defArgs s_raised_joins), (defBody s_raised_joins), (defScope s_raised_joins)⟩) (by rfl)
  have k34 : PySem.W.keepIn K (.ref (He.ga K "raised_joins")) = true := c.fact 0 67
  have a35 : PySem.W.nsIn K mainGlobals "nearest_table" = some (some (.ref (He.ga K "nearest_table"))) := of_decide_eq_true (c.fact 0 68)
  obtain ⟨_, _, _, kv_l35, _, _, _, _, _, l35, cc_l35⟩ := c.def_ 34 (d := ⟨fun K => (He.ga K "nearest_table"), "nearest_table", "nearest_table", (defArgs s_nearest_table), (defBody s_nearest_table), (defScope s_nearest_table)⟩) (by rfl)
  have k35 : PySem.W.keepIn K (.ref (He.ga K "nearest_table")) = true := c.fact 0 69
  have a36 : PySem.W.nsIn K mainGlobals "nested_within" = some (some (.ref (He.ga K "nested_within"))) := of_decide_eq_true (c.fact 0 70)
  obtain ⟨_, _, _, kv_l36, _, _, _, _, _, l36, cc_l36⟩ := c.def_ 35 (d := ⟨fun K => (He.ga K "nested_within"), "nested_within", "nested_within", (defArgs s_nested_within), (defBody s_nested_within), (defScope s_nested_within)⟩) (by rfl)
  have k36 : PySem.W.keepIn K (.ref (He.ga K "nested_within")) = true := c.fact 0 71
  have a37 : PySem.W.nsIn K mainGlobals "tree_of" = some (some (.ref (He.ga K "tree_of"))) := of_decide_eq_true (c.fact 0 72)
  obtain ⟨_, _, _, kv_l37, _, _, _, _, _, l37, cc_l37⟩ := c.def_ 36 (d := ⟨fun K => (He.ga K "tree_of"), "tree_of", "tree_of", (defArgs s_tree_of), (defBody s_tree_of), (defScope s_tree_of)⟩) (by rfl)
  have k37 : PySem.W.keepIn K (.ref (He.ga K "tree_of")) = true := c.fact 0 73
  have a38 : PySem.W.nsIn K mainGlobals "items_of" = some (some (.ref (He.ga K "items_of"))) := of_decide_eq_true (c.fact 0 74)
  obtain ⟨_, _, _, kv_l38, _, _, _, _, _, l38, cc_l38⟩ := c.def_ 37 (d := ⟨fun K => (He.ga K "items_of"), "items_of", "items_of", (defArgs s_items_of), (defBody s_items_of), (defScope s_items_of)⟩) (by rfl)
  have k38 : PySem.W.keepIn K (.ref (He.ga K "items_of")) = true := c.fact 0 75
  have a39 : PySem.W.nsIn K mainGlobals "level_in" = some (some (.ref (He.ga K "level_in"))) := of_decide_eq_true (c.fact 0 76)
  obtain ⟨_, _, _, kv_l39, _, _, _, _, _, l39, cc_l39⟩ := c.def_ 38 (d := ⟨fun K => (He.ga K "level_in"), "level_in", "level_in", (defArgs s_level_in), (defBody s_level_in), (defScope s_level_in)⟩) (by rfl)
  have k39 : PySem.W.keepIn K (.ref (He.ga K "level_in")) = true := c.fact 0 77
  have a40 : PySem.W.nsIn K mainGlobals "table_of" = some (some (.ref (He.ga K "table_of"))) := of_decide_eq_true (c.fact 0 78)
  obtain ⟨_, _, _, kv_l40, _, _, _, _, _, l40, cc_l40⟩ := c.def_ 39 (d := ⟨fun K => (He.ga K "table_of"), "table_of", "table_of", (defArgs s_table_of), (defBody s_table_of), (defScope s_table_of)⟩) (by rfl)
  have k40 : PySem.W.keepIn K (.ref (He.ga K "table_of")) = true := c.fact 0 79
  have a41 : PySem.W.nsIn K mainGlobals "is_part" = some (some (.ref (He.ga K "is_part"))) := of_decide_eq_true (c.fact 0 80)
  obtain ⟨_, _, _, kv_l41, _, _, _, _, _, l41, cc_l41⟩ := c.def_ 40 (d := ⟨fun K => (He.ga K "is_part"), "is_part", "is_part", (defArgs s_is_part), (defBody s_is_part), (defScope s_is_part)⟩) (by rfl)
  have k41 : PySem.W.keepIn K (.ref (He.ga K "is_part")) = true := c.fact 0 81
  have a42 : PySem.W.nsIn K mainGlobals "is_tree" = some (some (.ref (He.ga K "is_tree"))) := of_decide_eq_true (c.fact 0 82)
  obtain ⟨_, _, _, kv_l42, _, _, _, _, _, l42, cc_l42⟩ := c.def_ 41 (d := ⟨fun K => (He.ga K "is_tree"), "is_tree", "is_tree", (defArgs s_is_tree), (defBody s_is_tree), (defScope s_is_tree)⟩) (by rfl)
  have k42 : PySem.W.keepIn K (.ref (He.ga K "is_tree")) = true := c.fact 0 83
  have a43 : PySem.W.nsIn K mainGlobals "is_order" = some (some (.ref (He.ga K "is_order"))) := of_decide_eq_true (c.fact 0 84)
  obtain ⟨_, _, _, kv_l43, _, _, _, _, _, l43, cc_l43⟩ := c.def_ 42 (d := ⟨fun K => (He.ga K "is_order"), "is_order", "is_order", (defArgs s_is_order), (defBody s_is_order), (defScope s_is_order)⟩) (by rfl)
  have k43 : PySem.W.keepIn K (.ref (He.ga K "is_order")) = true := c.fact 0 85
  have a44 : PySem.W.nsIn K mainGlobals "relabeled" = some (some (.ref (He.ga K "relabeled"))) := of_decide_eq_true (c.fact 0 86)
  obtain ⟨_, _, _, kv_l44, _, _, _, _, _, l44, cc_l44⟩ := c.def_ 43 (d := ⟨fun K => (He.ga K "relabeled"), "relabeled", "relabeled", (defArgs s_relabeled), (defBody s_relabeled), (defScope s_relabeled)⟩) (by rfl)
  have k44 : PySem.W.keepIn K (.ref (He.ga K "relabeled")) = true := c.fact 0 87
  have a45 : PySem.W.nsIn K mainGlobals "_law_draws" = some (some (.ref (He.ga K "_law_draws"))) := of_decide_eq_true (c.fact 0 88)
  obtain ⟨_, _, _, kv_l45, _, _, _, _, _, l45, cc_l45⟩ := c.def_ 44 (d := ⟨fun K => (He.ga K "_law_draws"), "_law_draws", "_law_draws", (defArgs s_L_draws), (defBody s_L_draws), (defScope s_L_draws)⟩) (by rfl)
  have k45 : PySem.W.keepIn K (.ref (He.ga K "_law_draws")) = true := c.fact 0 89
  have a46 : PySem.W.nsIn K mainGlobals "_law_next" = some (some (.ref (He.ga K "_law_next"))) := of_decide_eq_true (c.fact 0 90)
  obtain ⟨_, _, _, kv_l46, _, _, _, _, _, l46, cc_l46⟩ := c.def_ 45 (d := ⟨fun K => (He.ga K "_law_next"), "_law_next", "_law_next", (defArgs s_L_next), (defBody s_L_next), (defScope s_L_next)⟩) (by rfl)
  have k46 : PySem.W.keepIn K (.ref (He.ga K "_law_next")) = true := c.fact 0 91
  have a47 : PySem.W.nsIn K mainGlobals "_law_one" = some (some (.ref (He.ga K "_law_one"))) := of_decide_eq_true (c.fact 0 92)
  obtain ⟨_, _, _, kv_l47, _, _, _, _, _, l47, cc_l47⟩ := c.def_ 46 (d := ⟨fun K => (He.ga K "_law_one"), "_law_one", "_law_one", (defArgs s_L_one), (defBody s_L_one), (defScope s_L_one)⟩) (by rfl)
  have k47 : PySem.W.keepIn K (.ref (He.ga K "_law_one")) = true := c.fact 0 93
  have a48 : PySem.W.nsIn K mainGlobals "_law_equal" = some (some (.ref (He.ga K "_law_equal"))) := of_decide_eq_true (c.fact 0 94)
  obtain ⟨_, _, _, kv_l48, _, _, _, _, _, l48, cc_l48⟩ := c.def_ 47 (d := ⟨fun K => (He.ga K "_law_equal"), "_law_equal", "_law_equal", (defArgs s_L_equal), (defBody s_L_equal), (defScope s_L_equal)⟩) (by rfl)
  have k48 : PySem.W.keepIn K (.ref (He.ga K "_law_equal")) = true := c.fact 0 95
  have a49 : PySem.W.nsIn K mainGlobals "_law_count" = some (some (.ref (He.ga K "_law_count"))) := of_decide_eq_true (c.fact 0 96)
  obtain ⟨_, _, _, kv_l49, _, _, _, _, _, l49, cc_l49⟩ := c.def_ 48 (d := ⟨fun K => (He.ga K "_law_count"), "_law_count", "_law_count", (defArgs s_L_count), (defBody s_L_count), (defScope s_L_count)⟩) (by rfl)
  have k49 : PySem.W.keepIn K (.ref (He.ga K "_law_count")) = true := c.fact 0 97
  have a50 : PySem.W.nsIn K mainGlobals "_law_grades" = some (some (.ref (He.ga K "_law_grades"))) := of_decide_eq_true (c.fact 0 98)
  obtain ⟨_, _, _, kv_l50, _, _, _, _, _, l50, cc_l50⟩ := c.def_ 49 (d := ⟨fun K => (He.ga K "_law_grades"), "_law_grades", "_law_grades", (defArgs s_L_grades), (defBody s_L_grades), (defScope s_L_grades)⟩) (by rfl)
  have k50 : PySem.W.keepIn K (.ref (He.ga K "_law_grades")) = true := c.fact 0 99
  have a51 : PySem.W.nsIn K mainGlobals "_law_level" = some (some (.ref (He.ga K "_law_level"))) := of_decide_eq_true (c.fact 0 100)
  obtain ⟨_, _, _, kv_l51, _, _, _, _, _, l51, cc_l51⟩ := c.def_ 50 (d := ⟨fun K => (He.ga K "_law_level"), "_law_level", "_law_level", (defArgs s_L_level), (defBody s_L_level), (defScope s_L_level)⟩) (by rfl)
  have k51 : PySem.W.keepIn K (.ref (He.ga K "_law_level")) = true := c.fact 0 101
  have a52 : PySem.W.nsIn K mainGlobals "_law_nested" = some (some (.ref (He.ga K "_law_nested"))) := of_decide_eq_true (c.fact 0 102)
  obtain ⟨_, _, _, kv_l52, _, _, _, _, _, l52, cc_l52⟩ := c.def_ 51 (d := ⟨fun K => (He.ga K "_law_nested"), "_law_nested", "_law_nested", (defArgs s_L_nested), (defBody s_L_nested), (defScope s_L_nested)⟩) (by rfl)
  have k52 : PySem.W.keepIn K (.ref (He.ga K "_law_nested")) = true := c.fact 0 103
  have a53 : PySem.W.nsIn K mainGlobals "_law_raised" = some (some (.ref (He.ga K "_law_raised"))) := of_decide_eq_true (c.fact 0 104)
  obtain ⟨_, _, _, kv_l53, _, _, _, _, _, l53, cc_l53⟩ := c.def_ 52 (d := ⟨fun K => (He.ga K "_law_raised"), "_law_raised", "_law_raised", (defArgs s_L_raised), (defBody s_L_raised), (defScope s_L_raised)⟩) (by rfl)
  have k53 : PySem.W.keepIn K (.ref (He.ga K "_law_raised")) = true := c.fact 0 105
  have a54 : PySem.W.nsIn K mainGlobals "_law_levels" = some (some (.ref (He.ga K "_law_levels"))) := of_decide_eq_true (c.fact 0 106)
  obtain ⟨_, _, _, kv_l54, _, _, _, _, _, l54, cc_l54⟩ := c.def_ 53 (d := ⟨fun K => (He.ga K "_law_levels"), "_law_levels", "_law_levels", (defArgs s_L_levels), (defBody s_L_levels), (defScope s_L_levels)⟩) (by rfl)
  have k54 : PySem.W.keepIn K (.ref (He.ga K "_law_levels")) = true := c.fact 0 107
  have a55 : PySem.W.nsIn K mainGlobals "_law_any" = some (some (.ref (He.ga K "_law_any"))) := of_decide_eq_true (c.fact 0 108)
  obtain ⟨_, _, _, kv_l55, _, _, _, _, _, l55, cc_l55⟩ := c.def_ 54 (d := ⟨fun K => (He.ga K "_law_any"), "_law_any", "_law_any", (defArgs s_L_any), (defBody s_L_any), (defScope s_L_any)⟩) (by rfl)
  have k55 : PySem.W.keepIn K (.ref (He.ga K "_law_any")) = true := c.fact 0 109
  have a56 : PySem.W.nsIn K mainGlobals "_law_table" = some (some (.ref (He.ga K "_law_table"))) := of_decide_eq_true (c.fact 0 110)
  obtain ⟨_, _, _, kv_l56, _, _, _, _, _, l56, cc_l56⟩ := c.def_ 55 (d := ⟨fun K => (He.ga K "_law_table"), "_law_table", "_law_table", (defArgs s_L_table), (defBody s_L_table), (defScope s_L_table)⟩) (by rfl)
  have k56 : PySem.W.keepIn K (.ref (He.ga K "_law_table")) = true := c.fact 0 111
  have a57 : PySem.W.nsIn K mainGlobals "_law_tree_read" = some (some (.ref (He.ga K "_law_tree_read"))) := of_decide_eq_true (c.fact 0 112)
  obtain ⟨_, _, _, kv_l57, _, _, _, _, _, l57, cc_l57⟩ := c.def_ 56 (d := ⟨fun K => (He.ga K "_law_tree_read"), "_law_tree_read", "_law_tree_read", (defArgs s_L_tree_read), (defBody s_L_tree_read), (defScope s_L_tree_read)⟩) (by rfl)
  have k57 : PySem.W.keepIn K (.ref (He.ga K "_law_tree_read")) = true := c.fact 0 113
  have a58 : PySem.W.nsIn K mainGlobals "_law_tree_right" = some (some (.ref (He.ga K "_law_tree_right"))) := of_decide_eq_true (c.fact 0 114)
  obtain ⟨_, _, _, kv_l58, _, _, _, _, _, l58, cc_l58⟩ := c.def_ 57 (d := ⟨fun K => (He.ga K "_law_tree_right"), "_law_tree_right", "_law_tree_right", (defArgs s_L_tree_right), (defBody s_L_tree_right), (defScope s_L_tree_right)⟩) (by rfl)
  have k58 : PySem.W.keepIn K (.ref (He.ga K "_law_tree_right")) = true := c.fact 0 115
  have a59 : PySem.W.nsIn K mainGlobals "_law_board_right" = some (some (.ref (He.ga K "_law_board_right"))) := of_decide_eq_true (c.fact 0 116)
  obtain ⟨_, _, _, kv_l59, _, _, _, _, _, l59, cc_l59⟩ := c.def_ 58 (d := ⟨fun K => (He.ga K "_law_board_right"), "_law_board_right", "_law_board_right", (defArgs s_L_board_right), (defBody s_L_board_right), (defScope s_L_board_right)⟩) (by rfl)
  have k59 : PySem.W.keepIn K (.ref (He.ga K "_law_board_right")) = true := c.fact 0 117
  have a60 : PySem.W.nsIn K mainGlobals "law" = some (some (.ref (He.ga K "law"))) := of_decide_eq_true (c.fact 0 118)
  obtain ⟨_, _, _, kv_l60, _, _, _, _, _, l60, cc_l60⟩ := c.def_ 59 (d := ⟨fun K => (He.ga K "law"), "law", "law", (defArgs s_law), (defBody s_law), (defScope s_law)⟩) (by rfl)
  have k60 : PySem.W.keepIn K (.ref (He.ga K "law")) = true := c.fact 0 119
  have aC_Board : PySem.W.nsIn K mainGlobals "Board" = some (some (.ref (He.ga K "Board"))) := of_decide_eq_true (c.fact 0 120)
  have pg_Board : PySem.W.plainGet K (He.ga K "Board") Str.empty = true := c.fact 0 121
  have hd_Board : PySem.W.hasDictIn K (He.ga K "Board") = true := c.fact 0 122
  have po_Board : PySem.W.plainOver K (He.ga K "Board") = true := c.fact 0 123
  have sa_Board : PySem.W.findIn K (.ref (He.ga K "Board")) "__setattr__" = some (some (.builtin "object.__setattr__")) := of_decide_eq_true (c.fact 0 124)
  have mk_Board : PySem.W.makesIn K (He.ga K "Board") = true := c.fact 0 125
  have kc_Board : PySem.W.keepIn K (.ref (He.ga K "Board")) = true := c.fact 0 126
  have ha_Board : PySem.W.findIn K (.ref (He.ga K "Board")) "__class__" = some (some (.builtin "object.__class__")) := of_decide_eq_true (c.fact 0 127)
  have hn_Board : PySem.W.specialIn K (.builtin "object.__class__") "__get__" = some (some (.builtin "getset_descriptor.__get__")) := of_decide_eq_true (c.fact 0 128)
  have ht_Board : PySem.W.takesIn K (.builtin "object.__class__") = some true := of_decide_eq_true (c.fact 0 129)
  have hm_Board : PySem.W.mroIn K (He.ga K "Board") (.type "object") = some true := of_decide_eq_true (c.fact 0 130)
  have tC_Board : PySem.W.typeIn K (.ref (He.ga K "Board")) = some (.type "type") := of_decide_eq_true (c.fact 0 131)
  have rd_Board : PySem.W.readsIn K (He.ga K "Board") (.type "type") = true := c.fact 0 132
  have ga_Board : PySem.W.specialIn K (.ref (He.ga K "Board")) "__getattribute__" = some (some (.builtin "type.__getattribute__")) := of_decide_eq_true (c.fact 0 133)
  have ki_Board : PySem.W.kitOne K (.ref (He.ga K "Board")) (.ref (He.ga K "Board")) = some true := of_decide_eq_true (c.fact 0 134)
  have nf_kept_Board : PySem.W.findIn K (.ref (He.ga K "Board")) "kept" = some none := of_decide_eq_true (c.fact 0 135)
  have nf_tables_Board : PySem.W.findIn K (.ref (He.ga K "Board")) "tables" = some none := of_decide_eq_true (c.fact 0 136)
  have nf_level_Board : PySem.W.findIn K (.ref (He.ga K "Board")) "level" = some none := of_decide_eq_true (c.fact 0 137)
  have nf_busy_Board : PySem.W.findIn K (.ref (He.ga K "Board")) "busy" = some none := of_decide_eq_true (c.fact 0 138)
  have nf_rows_Board : PySem.W.findIn K (.ref (He.ga K "Board")) "rows" = some none := of_decide_eq_true (c.fact 0 139)
  have kn_Board_LIMIT : PySem.W.findIn K (.ref (He.ga K "Board")) "LIMIT" = some (some (.int 60 (tkC K (He.ga K "Board") "LIMIT"))) := of_decide_eq_true (c.fact 0 140)
  have kg_Board_LIMIT : PySem.W.specialIn K (.int 60 (tkC K (He.ga K "Board") "LIMIT")) "__get__" = some none := of_decide_eq_true (c.fact 0 141)
  have kn_Board_NESTED : PySem.W.findIn K (.ref (He.ga K "Board")) "NESTED" = some (some (.bool false)) := of_decide_eq_true (c.fact 0 142)
  have kg_Board_NESTED : PySem.W.specialIn K (.bool false) "__get__" = some none := of_decide_eq_true (c.fact 0 143)
  have a_Board_init : PySem.W.findIn K (.ref (He.ga K "Board")) "__init__" = some (some (.ref (He.ma K (He.ga K "Board") "__init__"))) := of_decide_eq_true (c.fact 0 144)
  have i_Board_init : PySem.W.isFn K (.ref (He.ma K (He.ga K "Board") "__init__")) = true := c.fact 0 145
  obtain ⟨_, _, _, kv_l_Board_init, _, _, _, _, _, l_Board_init, cc_l_Board_init⟩ := c.def_ 60 (d := ⟨fun K => (He.ma K (He.ga K "Board") "__init__"), "__init__", "Board.__init__", (defArgs s_Board_init), (defBody s_Board_init), (defScope s_Board_init)⟩) (by rfl)
  have k_Board_init : PySem.W.keepIn K (.ref (He.ma K (He.ga K "Board") "__init__")) = true := c.fact 0 146
  have w_Board_init : PySem.W.fnIn K (He.ma K (He.ga K "Board") "__init__") = true := c.fact 0 147
  have a_Board_read : cmB K (He.ga K "Board") "read" (He.ma K (He.ga K "Board") "read") = true := c.fact 0 148
  have pr_Board_read : PySem.W.recIn K (He.ma K (He.ga K "Board") "read") "classmethod" = some (.ref (cmF K (He.ma K (He.ga K "Board") "read")) :: (cmR K (He.ma K (He.ga K "Board") "read"))) := of_decide_eq_true (c.fact 0 149)
  obtain ⟨_, _, _, kv_l_Board_read, _, _, _, _, _, l_Board_read, cc_l_Board_read⟩ := c.def_ 61 (d := ⟨fun K => (cmF K (He.ma K (He.ga K "Board") "read")), "read", "Board.read", (defArgs s_Board_read), (defBody s_Board_read), (defScope s_Board_read)⟩) (by rfl)
  have k_Board_read : PySem.W.keepIn K (.ref (cmF K (He.ma K (He.ga K "Board") "read"))) = true := c.fact 0 150
  have w_Board_read : PySem.W.fnIn K (cmF K (He.ma K (He.ga K "Board") "read")) = true := c.fact 0 151
  have a_Board_cut : PySem.W.findIn K (.ref (He.ga K "Board")) "cut" = some (some (.ref (He.ma K (He.ga K "Board") "cut"))) := of_decide_eq_true (c.fact 0 152)
  have pg_Board_cut : PySem.W.specialIn K (.ref (He.ma K (He.ga K "Board") "cut")) "__get__" = some (some (.builtin "property.__get__")) := of_decide_eq_true (c.fact 0 153)
  have pt_Board_cut : PySem.W.takesIn K (.ref (He.ma K (He.ga K "Board") "cut")) = some true := of_decide_eq_true (c.fact 0 154)
  have pr_Board_cut : PySem.W.recIn K (He.ma K (He.ga K "Board") "cut") "property" = some (.ref (prF K (He.ma K (He.ga K "Board") "cut")) :: (prR K (He.ma K (He.ga K "Board") "cut"))) := of_decide_eq_true (c.fact 0 155)
  obtain ⟨_, _, _, kv_l_Board_cut, _, _, _, _, _, l_Board_cut, cc_l_Board_cut⟩ := c.def_ 62 (d := ⟨fun K => (prF K (He.ma K (He.ga K "Board") "cut")), "cut", "Board.cut", (defArgs s_Board_cut), (defBody s_Board_cut), (defScope s_Board_cut)⟩) (by rfl)
  have k_Board_cut : PySem.W.keepIn K (.ref (prF K (He.ma K (He.ga K "Board") "cut"))) = true := c.fact 0 156
  have a_Board_groups : PySem.W.findIn K (.ref (He.ga K "Board")) "groups" = some (some (.ref (He.ma K (He.ga K "Board") "groups"))) := of_decide_eq_true (c.fact 0 157)
  have pg_Board_groups : PySem.W.specialIn K (.ref (He.ma K (He.ga K "Board") "groups")) "__get__" = some (some (.builtin "property.__get__")) := of_decide_eq_true (c.fact 0 158)
  have pt_Board_groups : PySem.W.takesIn K (.ref (He.ma K (He.ga K "Board") "groups")) = some true := of_decide_eq_true (c.fact 0 159)
  have pr_Board_groups : PySem.W.recIn K (He.ma K (He.ga K "Board") "groups") "property" = some (.ref (prF K (He.ma K (He.ga K "Board") "groups")) :: (prR K (He.ma K (He.ga K "Board") "groups"))) := of_decide_eq_true (c.fact 0 160)
  obtain ⟨_, _, _, kv_l_Board_groups, _, _, _, _, _, l_Board_groups, cc_l_Board_groups⟩ := c.def_ 63 (d := ⟨fun K => (prF K (He.ma K (He.ga K "Board") "groups")), "groups", "Board.groups", (defArgs s_Board_groups), (defBody s_Board_groups), (defScope s_Board_groups)⟩) (by rfl)
  have k_Board_groups : PySem.W.keepIn K (.ref (prF K (He.ma K (He.ga K "Board") "groups"))) = true := c.fact 0 161
  have a_Board_top : PySem.W.findIn K (.ref (He.ga K "Board")) "top" = some (some (.ref (He.ma K (He.ga K "Board") "top"))) := of_decide_eq_true (c.fact 0 162)
  have pg_Board_top : PySem.W.specialIn K (.ref (He.ma K (He.ga K "Board") "top")) "__get__" = some (some (.builtin "property.__get__")) := of_decide_eq_true (c.fact 0 163)
  have pt_Board_top : PySem.W.takesIn K (.ref (He.ma K (He.ga K "Board") "top")) = some true := of_decide_eq_true (c.fact 0 164)
  have pr_Board_top : PySem.W.recIn K (He.ma K (He.ga K "Board") "top") "property" = some (.ref (prF K (He.ma K (He.ga K "Board") "top")) :: (prR K (He.ma K (He.ga K "Board") "top"))) := of_decide_eq_true (c.fact 0 165)
  obtain ⟨_, _, _, kv_l_Board_top, _, _, _, _, _, l_Board_top, cc_l_Board_top⟩ := c.def_ 64 (d := ⟨fun K => (prF K (He.ma K (He.ga K "Board") "top")), "top", "Board.top", (defArgs s_Board_top), (defBody s_Board_top), (defScope s_Board_top)⟩) (by rfl)
  have k_Board_top : PySem.W.keepIn K (.ref (prF K (He.ma K (He.ga K "Board") "top"))) = true := c.fact 0 166
  have a_Board_call : PySem.W.findIn K (.ref (He.ga K "Board")) "__call__" = some (some (.ref (He.ma K (He.ga K "Board") "__call__"))) := of_decide_eq_true (c.fact 0 167)
  have i_Board_call : PySem.W.isFn K (.ref (He.ma K (He.ga K "Board") "__call__")) = true := c.fact 0 168
  obtain ⟨_, _, _, kv_l_Board_call, _, _, _, _, _, l_Board_call, cc_l_Board_call⟩ := c.def_ 65 (d := ⟨fun K => (He.ma K (He.ga K "Board") "__call__"), "__call__", "Board.__call__", (defArgs s_Board_call), (defBody s_Board_call), (defScope s_Board_call)⟩) (by rfl)
  have k_Board_call : PySem.W.keepIn K (.ref (He.ma K (He.ga K "Board") "__call__")) = true := c.fact 0 169
  have w_Board_call : PySem.W.fnIn K (He.ma K (He.ga K "Board") "__call__") = true := c.fact 0 170
  have a_Board_contains : PySem.W.findIn K (.ref (He.ga K "Board")) "__contains__" = some (some (.ref (He.ma K (He.ga K "Board") "__contains__"))) := of_decide_eq_true (c.fact 0 171)
  have i_Board_contains : PySem.W.isFn K (.ref (He.ma K (He.ga K "Board") "__contains__")) = true := c.fact 0 172
  obtain ⟨_, _, _, kv_l_Board_contains, _, _, _, _, _, l_Board_contains, cc_l_Board_contains⟩ := c.def_ 66 (d := ⟨fun K => (He.ma K (He.ga K "Board") "__contains__"), "__contains__", "Board.__contains__", (defArgs s_Board_contains), (defBody s_Board_contains), (defScope s_Board_contains)⟩) (by rfl)
  have k_Board_contains : PySem.W.keepIn K (.ref (He.ma K (He.ga K "Board") "__contains__")) = true := c.fact 0 173
  have w_Board_contains : PySem.W.fnIn K (He.ma K (He.ga K "Board") "__contains__") = true := c.fact 0 174
  have a_Board_table : PySem.W.findIn K (.ref (He.ga K "Board")) "table" = some (some (.ref (He.ma K (He.ga K "Board") "table"))) := of_decide_eq_true (c.fact 0 175)
  have i_Board_table : PySem.W.isFn K (.ref (He.ma K (He.ga K "Board") "table")) = true := c.fact 0 176
  obtain ⟨_, _, _, kv_l_Board_table, _, _, _, _, _, l_Board_table, cc_l_Board_table⟩ := c.def_ 67 (d := ⟨fun K => (He.ma K (He.ga K "Board") "table"), "table", "Board.table", (defArgs s_Board_table), (defBody s_Board_table), (defScope s_Board_table)⟩) (by rfl)
  have k_Board_table : PySem.W.keepIn K (.ref (He.ma K (He.ga K "Board") "table")) = true := c.fact 0 177
  have w_Board_table : PySem.W.fnIn K (He.ma K (He.ga K "Board") "table") = true := c.fact 0 178
  have a_Board_nested : PySem.W.findIn K (.ref (He.ga K "Board")) "nested" = some (some (.ref (He.ma K (He.ga K "Board") "nested"))) := of_decide_eq_true (c.fact 0 179)
  have i_Board_nested : PySem.W.isFn K (.ref (He.ma K (He.ga K "Board") "nested")) = true := c.fact 0 180
  obtain ⟨_, _, _, kv_l_Board_nested, _, _, _, _, _, l_Board_nested, cc_l_Board_nested⟩ := c.def_ 68 (d := ⟨fun K => (He.ma K (He.ga K "Board") "nested"), "nested", "Board.nested", (defArgs s_Board_nested), (defBody s_Board_nested), (defScope s_Board_nested)⟩) (by rfl)
  have k_Board_nested : PySem.W.keepIn K (.ref (He.ma K (He.ga K "Board") "nested")) = true := c.fact 0 181
  have w_Board_nested : PySem.W.fnIn K (He.ma K (He.ga K "Board") "nested") = true := c.fact 0 182
  have a_Board_joins : PySem.W.findIn K (.ref (He.ga K "Board")) "joins" = some (some (.ref (He.ma K (He.ga K "Board") "joins"))) := of_decide_eq_true (c.fact 0 183)
  have i_Board_joins : PySem.W.isFn K (.ref (He.ma K (He.ga K "Board") "joins")) = true := c.fact 0 184
  obtain ⟨_, _, _, kv_l_Board_joins, _, _, _, _, _, l_Board_joins, cc_l_Board_joins⟩ := c.def_ 69 (d := ⟨fun K => (He.ma K (He.ga K "Board") "joins"), "joins", "Board.joins", (defArgs s_Board_joins), (defBody s_Board_joins), (defScope s_Board_joins)⟩) (by rfl)
  have k_Board_joins : PySem.W.keepIn K (.ref (He.ma K (He.ga K "Board") "joins")) = true := c.fact 0 185
  have w_Board_joins : PySem.W.fnIn K (He.ma K (He.ga K "Board") "joins") = true := c.fact 0 186
  have a_Board_actions : PySem.W.findIn K (.ref (He.ga K "Board")) "actions" = some (some (.ref (He.ma K (He.ga K "Board") "actions"))) := of_decide_eq_true (c.fact 0 187)
  have i_Board_actions : PySem.W.isFn K (.ref (He.ma K (He.ga K "Board") "actions")) = true := c.fact 0 188
  obtain ⟨_, _, _, kv_l_Board_actions, _, _, _, _, _, l_Board_actions, cc_l_Board_actions⟩ := c.def_ 70 (d := ⟨fun K => (He.ma K (He.ga K "Board") "actions"), "actions", "Board.actions", (defArgs s_Board_actions), (defBody s_Board_actions), (defScope s_Board_actions)⟩) (by rfl)
  have k_Board_actions : PySem.W.keepIn K (.ref (He.ma K (He.ga K "Board") "actions")) = true := c.fact 0 189
  have w_Board_actions : PySem.W.fnIn K (He.ma K (He.ga K "Board") "actions") = true := c.fact 0 190
  have a_Board_len : PySem.W.findIn K (.ref (He.ga K "Board")) "__len__" = some (some (.ref (He.ma K (He.ga K "Board") "__len__"))) := of_decide_eq_true (c.fact 0 191)
  have i_Board_len : PySem.W.isFn K (.ref (He.ma K (He.ga K "Board") "__len__")) = true := c.fact 0 192
  obtain ⟨_, _, _, kv_l_Board_len, _, _, _, _, _, l_Board_len, cc_l_Board_len⟩ := c.def_ 71 (d := ⟨fun K => (He.ma K (He.ga K "Board") "__len__"), "__len__", "Board.__len__", (defArgs s_Board_len), (defBody s_Board_len), (defScope s_Board_len)⟩) (by rfl)
  have k_Board_len : PySem.W.keepIn K (.ref (He.ma K (He.ga K "Board") "__len__")) = true := c.fact 0 193
  have w_Board_len : PySem.W.fnIn K (He.ma K (He.ga K "Board") "__len__") = true := c.fact 0 194
  have a_Board_eq : PySem.W.findIn K (.ref (He.ga K "Board")) "__eq__" = some (some (.ref (He.ma K (He.ga K "Board") "__eq__"))) := of_decide_eq_true (c.fact 0 195)
  have i_Board_eq : PySem.W.isFn K (.ref (He.ma K (He.ga K "Board") "__eq__")) = true := c.fact 0 196
  obtain ⟨_, _, _, kv_l_Board_eq, _, _, _, _, _, l_Board_eq, cc_l_Board_eq⟩ := c.def_ 72 (d := ⟨fun K => (He.ma K (He.ga K "Board") "__eq__"), "__eq__", "Board.__eq__", (defArgs s_Board_eq), (defBody s_Board_eq), (defScope s_Board_eq)⟩) (by rfl)
  have k_Board_eq : PySem.W.keepIn K (.ref (He.ma K (He.ga K "Board") "__eq__")) = true := c.fact 0 197
  have w_Board_eq : PySem.W.fnIn K (He.ma K (He.ga K "Board") "__eq__") = true := c.fact 0 198
  have a_Board_str : PySem.W.findIn K (.ref (He.ga K "Board")) "__str__" = some (some (.ref (He.ma K (He.ga K "Board") "__str__"))) := of_decide_eq_true (c.fact 0 199)
  have i_Board_str : PySem.W.isFn K (.ref (He.ma K (He.ga K "Board") "__str__")) = true := c.fact 0 200
  obtain ⟨_, _, _, kv_l_Board_str, _, _, _, _, _, l_Board_str, cc_l_Board_str⟩ := c.def_ 73 (d := ⟨fun K => (He.ma K (He.ga K "Board") "__str__"), "__str__", "Board.__str__", (defArgs s_Board_str), (defBody s_Board_str), (defScope s_Board_str)⟩) (by rfl)
  have k_Board_str : PySem.W.keepIn K (.ref (He.ma K (He.ga K "Board") "__str__")) = true := c.fact 0 201
  have w_Board_str : PySem.W.fnIn K (He.ma K (He.ga K "Board") "__str__") = true := c.fact 0 202
  have n_ITEMS : PySem.W.nsIn K mainGlobals "ITEMS" = some (some (.int 12 (tkG K "ITEMS"))) := of_decide_eq_true (c.fact 0 203)
  have n_LEVEL : PySem.W.nsIn K mainGlobals "LEVEL" = some (some (.int 1000000000000 (tkG K "LEVEL"))) := of_decide_eq_true (c.fact 0 204)
  have n_DIGITS : PySem.W.nsIn K mainGlobals "DIGITS" = some (some (.int 13 (tkG K "DIGITS"))) := of_decide_eq_true (c.fact 0 205)
  have z1 : PySem.W.nsIn K mainGlobals "len" = some none := of_decide_eq_true (c.fact 0 206)
  have z2 : PySem.W.nsIn K mainGlobals "list" = some none := of_decide_eq_true (c.fact 0 207)
  have z3 : PySem.W.nsIn K mainGlobals "int" = some none := of_decide_eq_true (c.fact 0 208)
  have z4 : PySem.W.nsIn K mainGlobals "range" = some none := of_decide_eq_true (c.fact 0 209)
  have z5 : PySem.W.nsIn K mainGlobals "sorted" = some none := of_decide_eq_true (c.fact 0 210)
  have z6 : PySem.W.nsIn K mainGlobals "set" = some none := of_decide_eq_true (c.fact 0 211)
  have z7 : PySem.W.nsIn K mainGlobals "tuple" = some none := of_decide_eq_true (c.fact 0 212)
  have z8 : PySem.W.nsIn K mainGlobals "min" = some none := of_decide_eq_true (c.fact 0 213)
  have z9 : PySem.W.nsIn K mainGlobals "max" = some none := of_decide_eq_true (c.fact 0 214)
  have z10 : PySem.W.nsIn K mainGlobals "isinstance" = some none := of_decide_eq_true (c.fact 0 215)
  have z11 : PySem.W.nsIn K mainGlobals "bool" = some none := of_decide_eq_true (c.fact 0 216)
  have z12 : PySem.W.nsIn K mainGlobals "str" = some none := of_decide_eq_true (c.fact 0 217)
  have z13 : PySem.W.nsIn K mainGlobals "all" = some none := of_decide_eq_true (c.fact 0 218)
  have z14 : PySem.W.nsIn K mainGlobals "zip" = some none := of_decide_eq_true (c.fact 0 219)
  have z15 : PySem.W.nsIn K mainGlobals "repr" = some none := of_decide_eq_true (c.fact 0 220)
  have z16 : PySem.W.nsIn K mainGlobals "enumerate" = some none := of_decide_eq_true (c.fact 0 221)
  have z17 : PySem.W.nsIn K mainGlobals "abs" = some none := of_decide_eq_true (c.fact 0 222)
  have z18 : PySem.W.nsIn K mainGlobals "sum" = some none := of_decide_eq_true (c.fact 0 223)
  have z19 : PySem.W.nsIn K mainGlobals "dict" = some none := of_decide_eq_true (c.fact 0 224)
  exact all_mk (l := PySem.Challenge.rw_mergelevels_k80_whole_texts_there_and_ba) X G hfa a1 l1 cc_l1 k1 a2 l2 cc_l2 k2 a3 l3 cc_l3 k3 a4 l4 cc_l4 k4 a5 l5 cc_l5 k5 a6 l6 cc_l6 k6 a7 l7 cc_l7 k7 a8 l8 cc_l8 k8 a9 l9 cc_l9 k9 a10 l10 cc_l10 k10 a11 l11 cc_l11 k11 a12 l12 cc_l12 k12 a13 l13 cc_l13 k13 a14 l14 cc_l14 k14 a15 l15 cc_l15 k15 a16 l16 cc_l16 k16 a17 l17 cc_l17 k17 a18 l18 cc_l18 k18 a19 l19 cc_l19 k19 a20 l20 cc_l20 k20 a21 l21 cc_l21 k21 a22 l22 cc_l22 k22 a23 l23 cc_l23 k23 a24 l24 cc_l24 k24 a25 l25 cc_l25 k25 a26 l26 cc_l26 k26 a27 l27 cc_l27 k27 a28 l28 cc_l28 k28 a29 l29 cc_l29 k29 a30 l30 cc_l30 k30 a31 l31 cc_l31 k31 a32 l32 cc_l32 k32 a33 l33 cc_l33 k33 a34 l34 cc_l34 k34 a35 l35 cc_l35 k35 a36 l36 cc_l36 k36 a37 l37 cc_l37 k37 a38 l38 cc_l38 k38 a39 l39 cc_l39 k39 a40 l40 cc_l40 k40 a41 l41 cc_l41 k41 a42 l42 cc_l42 k42 a43 l43 cc_l43 k43 a44 l44 cc_l44 k44 a45 l45 cc_l45 k45 a46 l46 cc_l46 k46 a47 l47 cc_l47 k47 a48 l48 cc_l48 k48 a49 l49 cc_l49 k49 a50 l50 cc_l50 k50 a51 l51 cc_l51 k51 a52 l52 cc_l52 k52 a53 l53 cc_l53 k53 a54 l54 cc_l54 k54 a55 l55 cc_l55 k55 a56 l56 cc_l56 k56 a57 l57 cc_l57 k57 a58 l58 cc_l58 k58 a59 l59 cc_l59 k59 a60 l60 cc_l60 k60 aC_Board pg_Board hd_Board po_Board sa_Board mk_Board kc_Board ha_Board hn_Board ht_Board hm_Board tC_Board rd_Board ga_Board ki_Board nf_kept_Board nf_tables_Board nf_level_Board nf_busy_Board nf_rows_Board kn_Board_LIMIT kg_Board_LIMIT kn_Board_NESTED kg_Board_NESTED a_Board_init i_Board_init l_Board_init cc_l_Board_init k_Board_init w_Board_init a_Board_read pr_Board_read l_Board_read cc_l_Board_read k_Board_read w_Board_read a_Board_cut pg_Board_cut pt_Board_cut pr_Board_cut l_Board_cut cc_l_Board_cut k_Board_cut a_Board_groups pg_Board_groups pt_Board_groups pr_Board_groups l_Board_groups cc_l_Board_groups k_Board_groups a_Board_top pg_Board_top pt_Board_top pr_Board_top l_Board_top cc_l_Board_top k_Board_top a_Board_call i_Board_call l_Board_call cc_l_Board_call k_Board_call w_Board_call a_Board_contains i_Board_contains l_Board_contains cc_l_Board_contains k_Board_contains w_Board_contains a_Board_table i_Board_table l_Board_table cc_l_Board_table k_Board_table w_Board_table a_Board_nested i_Board_nested l_Board_nested cc_l_Board_nested k_Board_nested w_Board_nested a_Board_joins i_Board_joins l_Board_joins cc_l_Board_joins k_Board_joins w_Board_joins a_Board_actions i_Board_actions l_Board_actions cc_l_Board_actions k_Board_actions w_Board_actions a_Board_len i_Board_len l_Board_len cc_l_Board_len k_Board_len w_Board_len a_Board_eq i_Board_eq l_Board_eq cc_l_Board_eq k_Board_eq w_Board_eq a_Board_str i_Board_str l_Board_str cc_l_Board_str k_Board_str w_Board_str n_ITEMS n_LEVEL n_DIGITS z1 z2 z3 z4 z5 z6 z7 z8 z9 z10 z11 z12 z13 z14 z15 z16 z17 z18 z19
end Ml
open PySem PySem.W PySem.Calls PyProof.Rows
set_option maxHeartbeats 0 in
theorem PySem.Challenge.cw_mergelevels_k80_whole_texts_there_and_ba_holds : PySem.Challenge.rw_mergelevels_k80_whole_texts_there_and_ba.Holds := by
  w_on; o_law
  refine HandSHeadRun.head_any (r := OpenLaw.row PySem.Challenge.rw_mergelevels_k80_whole_texts_there_and_ba) (q := view (OpenLaw.row PySem.Challenge.rw_mergelevels_k80_whole_texts_there_and_ba).prog [80]) (H := Ml.hk) (ob := Ml.ob3 5 Ml.hfs Ml.hfn Ml.hhx) (M := 20000) (loose := Ml.hlo) (d := HandSHeadRun.topDef (OpenLaw.row PySem.Challenge.rw_mergelevels_k80_whole_texts_there_and_ba).prog 80) (kwd := []) Ml.ob3_eq
    (by kernel_rfl) (fun s => by kernel_rfl) Ml.hrun (by kernel_rfl) (by kernel_rfl) (by kernel_rfl) (by rfl) (by first | assumption | decide +kernel) (by decide +kernel) ⟨rfl, rfl, rfl, rfl, rfl, by decide +kernel⟩ ?hw ?hc
  case hw => w_witness2
  case hc =>
    refine L2.walk_ofE (l := PySem.Challenge.rw_mergelevels_k80_whole_texts_there_and_ba) (n := 63) (k := 18) (x := "_law_script") (CX := L2.CX0) rfl (by decide) (by kernel_rfl) ⟨rfl, by decide, by decide⟩ ?F (fun _ _ _ _ z => z)
    intro w mg fa h Y G hmg0
    obtain ⟨K, KX, c, ch⟩ := Y
    have hmg : mg ("law" : PySem.Str) = some (.ref fa) := by
      have e : (HandSHeadRun.topDef (OpenLaw.row PySem.Challenge.rw_mergelevels_k80_whole_texts_there_and_ba).prog 80).name = ("law" : PySem.Str) := by kernel_rfl
      rw [← e]
      exact hmg0
    obtain ⟨fd, hb, hF⟩ := Ml.hfacts KX G hmg c ch
    exact ⟨K, fd, Ml.sp_law K, KX, hb, fun H a ns hl _ hS => ⟨a, ns, rfl, hS, hl, fun _ => rfl⟩, hF⟩

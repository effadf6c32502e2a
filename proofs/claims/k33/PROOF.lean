import PyProof.Rows.All
import Wide.All
import OpenK.AllK
import Wide.FinOn
import HandS.Base
import HandS.Call
import HandS.List
import HandS.Comp
import HandS.Ends
import HandS.Iter
import HandS.NoneIn
import HandS.SetFor
import HandS.Strs
import HandS.SetBool
import HandS.SortInts
import HandS.SortKw
import KE.DataMinMax
import PyProof.SetRoads
import HandS.IsInst
import HandS.Zip
import HandS.Words
import PyProof.ReprRoads
import HandS.TupLe
import HandS.Style
import HandS.TupAny
import HandS.Star
import KE.KParD
import HandS.Walk
import HandS.Dict
import HandS.Deep
import KE.KRevSl
import PyProof.P3In
import HandS.Zip0
import PyProof.Draws
import PyProof.EnumMake
import KE.GoesZip
import KE.GoesMore
import PyProof.CallFns
import HandS.Defaults
import HandS.TupMul
import KE.KIndexOf
import HandS.DictComp
import KE.LtData
import HandS.TupSets
import KE.SortData
import HandS.IterVal
import KE.KDictZip
import HandS.RaiseMore
import HandS.TryOnly
import HandS.Head2
import HandS.HeadEnd
import HandS.HeadHook2
import KE.KExcInit
import HandS.Wide
import HandS.Codes
import HandS.Conv
import HandS.Flow
import PySem.Challenge.RW_mergelevels_k33_whole_least_sums_and_joi
set_option Elab.async false
set_option linter.all false
set_option maxRecDepth 100000
set_option maxHeartbeats 4000000
namespace Ml
open PySem PySem.Spec PyProof.Rows L2
/-! ### heaps -/
def Sm (H H' : Hp) : Prop := ∀ b o, H b = some o → H' b = some o
theorem Sm.refl (H : Hp) : Sm H H := fun _ _ h => h
theorem Sm.trans {H H1 H2 : Hp} (a : Sm H H1) (b : Sm H1 H2) : Sm H H2 := fun c o h => b c o (a c o h)
theorem Sm.new {H : Hp} {p : Addr} {o : HO} (h : H p = none) : Sm H (upd H p o) := fun b x e => by
  rw [upd_ne (ne_of_none e h)]
  exact e
theorem Sm.free {H H' : Hp} (e : Sm H H') {l : Addr} (h : H' l = none) : H l = none := by
  cases q : H l with
  | none => rfl
  | some o => rw [e l o q] at h; cases h
theorem Sm.rd {H H' : Hp} {a : Addr} {u : HO} (e : Sm H H') (h : Rd H a u) : Rd H' a u := by
  rcases h with h | ⟨o, h⟩
  · exact .inl (e _ _ h)
  · exact .inr ⟨o, e _ _ h⟩
theorem Sm.sqL {K : PySem.W.Frag} {H H' : Hp} {a : Addr} {xs : List V} (e : Sm H H') (h : SqL K H a xs) : SqL K H' a xs := by
  rcases h with h | h
  · exact .inl (e.rd h)
  · exact .inr h
theorem Sm.sqT {K : PySem.W.Frag} {H H' : Hp} {a : Addr} {xs : List V} (e : Sm H H') (h : SqT K H a xs) : SqT K H' a xs := by
  rcases h with h | h
  · exact .inl (e.rd h)
  · exact .inr h
/-- all but the two places of a drawing stays -/
def Kp (d r : Addr) (H H' : Hp) : Prop := ∀ b o, H b = some o → b ≠ d → b ≠ r → H' b = some o
theorem Kp.refl (d r : Addr) (H : Hp) : Kp d r H H := fun _ _ h _ _ => h
theorem Kp.trans {d r : Addr} {H H1 H2 : Hp} (a : Kp d r H H1) (b : Kp d r H1 H2) : Kp d r H H2 := fun c o h h1 h2 => b c o (a c o h h1 h2) h1 h2
theorem Sm.kp {d r : Addr} {H H' : Hp} (a : Sm H H') : Kp d r H H' := fun c o h _ _ => a c o h
theorem Kp.new {d r : Addr} {H : Hp} {p : Addr} {o : HO} (h : H p = none) : Kp d r H (upd H p o) := (Sm.new h).kp
theorem Kp.sqL {K : PySem.W.Frag} {d r : Addr} {H H' : Hp} {a : Addr} {xs : List V} (e : Kp d r H H') (h1 : a ≠ d) (h2 : a ≠ r) (h : SqL K H a xs) : SqL K H' a xs := by
  rcases h with (h | ⟨o, h⟩) | h
  · exact .inl (.inl (e _ _ h h1 h2))
  · exact .inl (.inr ⟨o, e _ _ h h1 h2⟩)
  · exact .inr h
/-- what is drawn from: the cells, how often, the rests -/
structure Dr (H : Hp) (d c r : Addr) (n : Nat) : Prop where
  ex : ∃ (cells rests : List Int) (t : Nat), H d = some (.lst [.ref c, .int (t : Int), .ref r]) ∧ H c = some (.lst (cells.map V.int)) ∧ H r = some (.lst (rests.map V.int)) ∧
    cells.length = rests.length ∧ 0 < cells.length ∧ cells.length ≤ 64 ∧ t ≤ n ∧ ∀ x ∈ rests, 0 ≤ x
  dc : d ≠ c
  dr : d ≠ r
  cr : c ≠ r
theorem Dr.d_lst {H : Hp} {d c r : Addr} {n : Nat} (h : Dr H d c r n) : ∃ xs, H d = some (.lst xs) := by
  obtain ⟨_, _, _, h1, _⟩ := h.ex
  exact ⟨_, h1⟩
theorem Dr.r_lst {H : Hp} {d c r : Addr} {n : Nat} (h : Dr H d c r n) : ∃ xs, H r = some (.lst xs) := by
  obtain ⟨_, _, _, _, _, h1, _⟩ := h.ex
  exact ⟨_, h1⟩
theorem Dr.c_lst {H : Hp} {d c r : Addr} {n : Nat} (h : Dr H d c r n) : ∃ xs, H c = some (.lst xs) := by
  obtain ⟨_, _, _, _, h1, _⟩ := h.ex
  exact ⟨_, h1⟩
theorem Dr.mono {H : Hp} {d c r : Addr} {n m : Nat} (h : Dr H d c r n) (e : n ≤ m) : Dr H d c r m := by
  obtain ⟨⟨cs, rs, t, h1, h2, h3, h4, h5, h6, h7, h8⟩, a, b, k⟩ := h
  exact ⟨⟨cs, rs, t, h1, h2, h3, h4, h5, h6, Nat.le_trans h7 e, h8⟩, a, b, k⟩
theorem Dr.same {H H' : Hp} {d c r : Addr} {n : Nat} (h : Dr H d c r n) (e : Sm H H') : Dr H' d c r n := by
  obtain ⟨⟨cs, rs, t, h1, h2, h3, h4⟩, a, b, k⟩ := h
  exact ⟨⟨cs, rs, t, e _ _ h1, e _ _ h2, e _ _ h3, h4⟩, a, b, k⟩
/-- an object that is stored into, elsewhere -/
theorem Dr.upd {H : Hp} {d c r p : Addr} {n : Nat} {o : HO} (h : Dr H d c r n) (h1 : p ≠ d) (h2 : p ≠ c) (h3 : p ≠ r) : Dr (L2.upd H p o) d c r n := by
  obtain ⟨⟨cs, rs, t, e1, e2, e3, e4⟩, a, b, k⟩ := h
  refine ⟨⟨cs, rs, t, ?_, ?_, ?_, e4⟩, a, b, k⟩
  · rw [upd_ne h1.symm]; exact e1
  · rw [upd_ne h2.symm]; exact e2
  · rw [upd_ne h3.symm]; exact e3
theorem Dr.new {H : Hp} {d c r p : Addr} {n : Nat} {o : HO} (h : Dr H d c r n) (hp : H p = none) : Dr (L2.upd H p o) d c r n := h.same (Sm.new hp)
theorem Dr.ne {H : Hp} {d c r p : Addr} {n : Nat} (h : Dr H d c r n) (hp : H p = none) : p ≠ d ∧ p ≠ c ∧ p ≠ r := by
  obtain ⟨x, h1⟩ := h.d_lst
  obtain ⟨y, h2⟩ := h.c_lst
  obtain ⟨z, h3⟩ := h.r_lst
  exact ⟨(ne_of_none h1 hp).symm, (ne_of_none h2 hp).symm, (ne_of_none h3 hp).symm⟩
theorem Dr.kpT {K : PySem.W.Frag} {H H' : Hp} {d c r a : Addr} {n : Nat} {xs : List V} (h : Dr H d c r n) (e : Kp d r H H') (hs : SqT K H a xs) : SqT K H' a xs := by
  obtain ⟨x, h1⟩ := h.d_lst
  obtain ⟨y, h2⟩ := h.r_lst
  rcases hs with (q | ⟨o, q⟩) | q
  · exact .inl (.inl (e _ _ q (ne_of q h1 (by intro z; cases z)) (ne_of q h2 (by intro z; cases z))))
  · exact .inl (.inr ⟨o, e _ _ q (ne_of q h1 (by intro z; cases z)) (ne_of q h2 (by intro z; cases z))⟩)
  · exact .inr q
/-! ### tuples of ints, tables -/
def IT (K : PySem.W.Frag) (H : Hp) (v : V) (ns : List Int) : Prop := ∃ p, v = .ref p ∧ SqT K H p (ns.map V.int)
def Rows (K : PySem.W.Frag) (H : Hp) (vs : List V) (t : List (List Int)) : Prop := vs.length = t.length ∧ ∀ (i : Nat) v ns, vs[i]? = some v → t[i]? = some ns → IT K H v ns
def TT (K : PySem.W.Frag) (H : Hp) (v : V) (t : List (List Int)) : Prop := ∃ p vs, v = .ref p ∧ SqT K H p vs ∧ Rows K H vs t
theorem IT.same {K : PySem.W.Frag} {H H' : Hp} {v : V} {ns : List Int} (h : IT K H v ns) (e : Sm H H') : IT K H' v ns := by
  obtain ⟨p, h1, h2⟩ := h
  exact ⟨p, h1, e.sqT h2⟩
theorem Rows.same {K : PySem.W.Frag} {H H' : Hp} {vs : List V} {t : List (List Int)} (h : Rows K H vs t) (e : Sm H H') : Rows K H' vs t :=
  ⟨h.1, fun i v ns a b => (h.2 i v ns a b).same e⟩
theorem TT.same {K : PySem.W.Frag} {H H' : Hp} {v : V} {t : List (List Int)} (h : TT K H v t) (e : Sm H H') : TT K H' v t := by
  obtain ⟨p, vs, h1, h2, h3⟩ := h
  exact ⟨p, vs, h1, e.sqT h2, h3.same e⟩
theorem IT.kp {K : PySem.W.Frag} {H H' : Hp} {d c r : Addr} {n : Nat} {v : V} {ns : List Int} (h : IT K H v ns) (g : Dr H d c r n) (e : Kp d r H H') : IT K H' v ns := by
  obtain ⟨p, h1, h2⟩ := h
  exact ⟨p, h1, g.kpT e h2⟩
theorem Rows.kp {K : PySem.W.Frag} {H H' : Hp} {d c r : Addr} {n : Nat} {vs : List V} {t : List (List Int)} (h : Rows K H vs t) (g : Dr H d c r n) (e : Kp d r H H') : Rows K H' vs t :=
  ⟨h.1, fun i v ns a b => (h.2 i v ns a b).kp g e⟩
theorem TT.kp {K : PySem.W.Frag} {H H' : Hp} {d c r : Addr} {n : Nat} {v : V} {t : List (List Int)} (h : TT K H v t) (g : Dr H d c r n) (e : Kp d r H H') : TT K H' v t := by
  obtain ⟨p, vs, h1, h2, h3⟩ := h
  exact ⟨p, vs, h1, g.kpT e h2, h3.kp g e⟩
/-- stores into a list -/
theorem sqT_upd {K : PySem.W.Frag} {H : Hp} {a p : Addr} {xs ys zs : List V} (hp : H p = some (.lst ys)) (hs : SqT K H a xs) : SqT K (L2.upd H p (.lst zs)) a xs := by
  rcases hs with (q | ⟨o, q⟩) | q
  · exact .inl (.inl (by rw [upd_ne (ne_of q hp (by intro z; cases z))]; exact q))
  · exact .inl (.inr ⟨o, by rw [upd_ne (ne_of q hp (by intro z; cases z))]; exact q⟩)
  · exact .inr q
theorem IT.upd {K : PySem.W.Frag} {H : Hp} {p : Addr} {ys zs : List V} {v : V} {ns : List Int} (h : IT K H v ns) (hp : H p = some (.lst ys)) : IT K (L2.upd H p (.lst zs)) v ns := by
  obtain ⟨q, h1, h2⟩ := h
  exact ⟨q, h1, sqT_upd hp h2⟩
theorem Rows.upd {K : PySem.W.Frag} {H : Hp} {p : Addr} {ys zs : List V} {vs : List V} {t : List (List Int)} (h : Rows K H vs t) (hp : H p = some (.lst ys)) : Rows K (L2.upd H p (.lst zs)) vs t :=
  ⟨h.1, fun i v ns a b => (h.2 i v ns a b).upd hp⟩
theorem Rows.nil {K : PySem.W.Frag} {H : Hp} : Rows K H [] [] := ⟨rfl, fun i v ns a _ => by simp at a⟩
theorem Rows.snoc {K : PySem.W.Frag} {H : Hp} {vs : List V} {t : List (List Int)} {v : V} {ns : List Int} (h : Rows K H vs t) (q : IT K H v ns) : Rows K H (vs ++ [v]) (t ++ [ns]) := by
  refine ⟨by rw [List.length_append, List.length_append, h.1]; rfl, fun i u ms a b => ?_⟩
  by_cases hi : i < vs.length
  · rw [List.getElem?_append_left hi] at a
    rw [List.getElem?_append_left (by rw [← h.1]; exact hi)] at b
    exact h.2 i u ms a b
  · rw [List.getElem?_append_right (by omega)] at a
    rw [List.getElem?_append_right (by rw [← h.1]; omega), ← h.1] at b
    cases e : i - vs.length with
    | zero =>
      rw [e] at a b
      cases Option.some.inj a
      cases Option.some.inj b
      exact q
    | succ k => rw [e] at a; simp at a
theorem Rows.get {K : PySem.W.Frag} {H : Hp} {vs : List V} {t : List (List Int)} (h : Rows K H vs t) {i : Nat} (hi : i < t.length) : ∃ v p, vs[i]? = some v ∧ v = .ref p ∧ SqT K H p ((t.getD i []).map V.int) := by
  have h1 : i < vs.length := by rw [h.1]; exact hi
  have a : vs[i]? = some vs[i] := List.getElem?_eq_getElem h1
  have b : t[i]? = some t[i] := List.getElem?_eq_getElem hi
  obtain ⟨p, e, q⟩ := h.2 i _ _ a b
  refine ⟨_, p, a, e, ?_⟩
  rw [List.getD_eq_getElem?_getD, b]
  exact q
/-- a table's levels -/
def LvOk (x : Int) : Prop := 1 ≤ x ∧ x ≤ 1000000000000
def WT (t : List (List Int)) : Prop := ∀ (i : Nat) ns, t[i]? = some ns → ns.length = i ∧ ∀ x ∈ ns, LvOk x
def lev (t : List (List Int)) (i j : Nat) : Int := if i = j then 0 else (t.getD (max i j) []).getD (min i j) 0
theorem lev_comm (t : List (List Int)) (i j : Nat) : lev t i j = lev t j i := by
  unfold lev
  by_cases h : i = j
  · rw [if_pos h, if_pos h.symm]
  · rw [if_neg h, if_neg (fun e => h e.symm), Nat.max_comm, Nat.min_comm]
theorem WT.row {t : List (List Int)} (h : WT t) {i : Nat} (hi : i < t.length) : (t.getD i []).length = i ∧ ∀ x ∈ t.getD i [], LvOk x := by
  have b : t[i]? = some t[i] := List.getElem?_eq_getElem hi
  rw [List.getD_eq_getElem?_getD, b]
  exact h i _ b
theorem WT.lev {t : List (List Int)} (h : WT t) {i j : Nat} (hi : i < t.length) (hj : j < t.length) (hij : i ≠ j) : LvOk (lev t i j) := by
  unfold Ml.lev
  rw [if_neg hij]
  have hm : max i j < t.length := by omega
  obtain ⟨h1, h2⟩ := h.row hm
  have hl : min i j < (t.getD (max i j) []).length := by omega
  rw [List.getD_eq_getElem?_getD, List.getElem?_eq_getElem hl]
  exact h2 _ (List.getElem_mem hl)
theorem WT.nil : WT [] := fun i ns h => by simp at h
theorem WT.snoc {t : List (List Int)} {ns : List Int} (h : WT t) (h1 : ns.length = t.length) (h2 : ∀ x ∈ ns, LvOk x) : WT (t ++ [ns]) := by
  intro i ms q
  by_cases hi : i < t.length
  · rw [List.getElem?_append_left hi] at q
    exact h i ms q
  · rw [List.getElem?_append_right (by omega)] at q
    cases e : i - t.length with
    | zero =>
      rw [e] at q
      cases Option.some.inj q
      exact ⟨by omega, h2⟩
    | succ k => rw [e] at q; simp at q
theorem map_at {ns : List Int} {i : Nat} {x : Int} (h : ns[i]? = some x) : (ns.map V.int)[i]? = some (.int x) := by
  rw [List.getElem?_map, h]
  rfl
theorem getD_at {ns : List Int} {i : Nat} (h : i < ns.length) : ns[i]? = some (ns.getD i 0) := by
  rw [List.getD_eq_getElem?_getD, List.getElem?_eq_getElem h]
  rfl
end Ml
namespace Ml
open PySem PySem.Spec PyProof.Rows L2
theorem ixN_at {n j : Nat} (h : j < n) : ixN n (j : Int) = some j := by
  unfold ixN
  rw [if_pos (by omega), if_pos (by omega)]
  simp
end Ml
namespace Ml
open PySem PySem.Spec PyProof.Rows L2
/-- a set that has just been made -/
abbrev emptyS (w : World) : Obj := { cls := .type "set", dict := none, data := .set #[] 0 (.fresh 0 0 (!w.params.followText "set-order")) }
section
variable {P : Program} {w : World} {A : Around} {E : Value → Shared → Prop} {s : Shared}
set_option maxHeartbeats 6400000 in
/-- set(l) of a list of ints -/
theorem set_of_list {l : Addr} {vals : Array Value} (zs : List Int) {Q : Value → Shared → Prop} (calm : A.handled = none) (isl : s.heap.IsList l vals) (are : IntsAre vals.toList zs) (few : zs.length + 1 < scanBound)
    (fin : ∀ (g : Heap) (tk c : Nat), SetR w g s.heap.objs.size (fun j => decide (j ∈ zs)) c → c ≤ zs.length → (∀ b o, s.heap.get? b = some o → g.get? b = some o) → Q (.ref s.heap.objs.size) { s with heap := g, toks := tk }) :
    wpAny (model P w) A (call (.type "set") [.ref l]) Q E s := by
  have size : vals.size = zs.length := by
    have e := IntsAre.length are
    rwa [Array.length_toList] at e
  obtain ⟨_, _, mro⟩ := F.called_set.mro
  have made := F.called_set.made
  have subs := F.called_set.sub
  refine wpAny_call (codeAny_of_tree ?_)
  show wpAny _ _ (callAny (.type "set") _) _ _ _
  refine wpAny_pure ⟨Code.quiet_builtin _ (by decide +kernel), codeAny_builtin F.entry_type_call ?_⟩
  rw [Around.under_plain (weight_type_call_type "set" [.ref l] []) rfl]
  have a1 := F.called_set.notType
  have a2 := F.called_set.canCreate
  have a3 := F.typeCall_set_1 (.ref l)
  repeat (any_goals (first | assumption | wp_step))
  refine codeAny_mono (code_set_led1 (.ref l) (E := E) (Q₁ := fun v z => v = .ref s.heap.objs.size ∧ z = { s with heap := s.heap.push (emptyS w) }) ⟨rfl, rfl⟩) fun res z hz => ?_
  cases res with
  | error e => exact hz
  | ok fl =>
    cases fl with
    | ret obj =>
      obtain ⟨rfl, rfl⟩ := hz
      have there : (s.heap.push (emptyS w)).get? s.heap.objs.size = some (emptyS w) := Heap.get?_push_size _ rfl
      have typ : Shared.TypeIs { s with heap := s.heap.push (emptyS w) } (.ref s.heap.objs.size) "set" := ⟨_, there, rfl⟩
      have b1 := F.called_set.init.lookup
      have b2 := F.called_set.init.bind (.ref s.heap.objs.size)
      repeat (any_goals (first | assumption | wp_step))
      refine codeAny_mono (codeAny_call_builtin (R := wants (fun u z => u = .none ∧ ∃ g tk c, z = { s with heap := g, toks := tk } ∧ SetR w g s.heap.objs.size (fun j => decide (j ∈ zs)) c ∧ c ≤ zs.length ∧
          (∀ b o, s.heap.get? b = some o → g.get? b = some o)) E) F.called_set.init.plain F.entry_set_init (check_set_init_1 typ ?_)) fun res2 z2 hz2 => ?_
      · obtain ⟨⟨ocl, odi, oda, osl⟩, hol, hcl, nl, hda⟩ := isl
        simp only at hcl hda
        subst hcl hda
        have hol1 : (s.heap.push (emptyS w)).get? l = some { cls := .type "list", dict := odi, data := .seq vals nl, slots := osl } := Heap.get?_push_of_some _ hol
        have c1 := F.sub_list_set
        have c2 := F.sub_list_frozenset
        have c3 : (Value.type "list" == Value.type "dict") = false := by decide
        have isl1 : (s.heap.push (emptyS w)).IsList l vals := ⟨_, hol1, rfl, nl, rfl⟩
        unfold Builtin.«set.__init__» noKeywords Builtin.Frozenset.updateFrom
        generalize hPI : pyIter = PI
        wp_walk
        subst hPI
        refine wpAny_pyIter_list isl1 ?_
        refine wpAny_bind (wpAny_runValue ?_)
        have lo : l < s.heap.objs.size := Heap.lt_size hol
        have calm3 : A.in1.in1.in1.handled = none := by simp [calm]
        have n1 : l ≠ (s.heap.push (emptyS w)).objs.size := by
          rw [Heap.size_push]
          exact Nat.ne_of_lt (Nat.lt_of_lt_of_le lo (Nat.le_succ _))
        have n2 : s.heap.objs.size ∉ [(s.heap.push (emptyS w)).objs.size, l] := by
          rw [Heap.size_push]
          simp only [List.mem_cons, List.not_mem_nil, or_false, not_or]
          exact ⟨Nat.ne_of_lt (Nat.lt_succ_self _), fun e => Nat.lt_irrefl _ (e ▸ lo)⟩
        have vat : ∀ (i : Nat) (v : Value), vals[i]? = some v → ∃ k t, zs[i]? = some k ∧ v = .int k t := fun i v hv => by
          have hi : i < zs.length := by rw [← size]; exact (Array.getElem?_eq_some_iff.mp hv).1
          obtain ⟨t, e⟩ := PyProof.Rows.IntsAre.int_at are i v (by rw [Array.getElem?_toList]; exact hv)
          refine ⟨zs[i], t, List.getElem?_eq_getElem hi, ?_⟩
          rw [e, List.getD_eq_getElem?_getD, List.getElem?_eq_getElem hi] <;> rfl
        refine set_update_ints ((Walks.list calm3 _ l n1 vals).toS) s.heap.objs.size n2 zs size few vat (vals.size - 0) 0 _ (by omega) (Nat.zero_le _)
          ⟨⟨_, Heap.get?_push_size _ rfl, rfl, rfl⟩, isl1.push _⟩ ⟨0, Nat.le_refl 0, setR_new_at (Heap.get?_push_of_some _ there)⟩ ?_
        rintro ⟨g, ge, dr, tk, os⟩ c mv hc hS
        have e1 : ge = s.gens := mv.gens
        have e2 : dr = s.drawn := mv.drawn
        have e3 : os = s.os := mv.os
        subst e1 e2 e3
        show wpAny _ _ _ _ _ _
        refine wpAny_pure ?_
        show wpAny _ _ (ret Value.none) _ _ _
        rw [size] at hc
        refine wpAny_pure ⟨rfl, g, tk, c, rfl, hS, hc, fun b o e => ?_⟩
        have lb : b < s.heap.objs.size := Heap.lt_size e
        refine mv.heap b o ?_ (Heap.get?_push_of_some _ (Heap.get?_push_of_some _ e))
        rw [Heap.size_push]
        simp only [List.mem_cons, List.not_mem_nil, or_false, not_or]
        exact ⟨fun e => Nat.lt_irrefl _ (e ▸ lb), fun e => Nat.lt_irrefl _ (Nat.lt_trans lb (e ▸ Nat.lt_succ_self _))⟩
      · cases res2 with
        | error e => exact hz2
        | ok fl2 =>
          cases fl2 with
          | ret u =>
            obtain ⟨rfl, g, tk, c, rfl, hS, hc, keep⟩ := hz2
            repeat (any_goals (first | assumption | wp_step))
            exact fin _ _ _ hS hc keep
          | _ => exact hz2.elim
    | _ => exact hz.elim
end
section
variable {X : Cx}
def rSetL1 (K : PySem.W.Frag) (w : World) : List V → Hp → VK → Prop := fun vs H Q => ∃ (a : Addr) (zs : List Int), vs = [V.ref a] ∧ SqL K H a (zs.map V.int) ∧ zs.length ≤ 1000 ∧
  ∀ (p : Addr) (c : Nat), H p = none → c ≤ zs.length → Q (.ref p) (upd H p (SetO w p (fun j => decide (j ∈ zs)) c))
theorem cr_setL1 (hc : X.calm = true) : CallR X (.type "set") (rSetL1 X.K X.w) := by
  intro pins s σ H xs us Q I rxs h
  obtain ⟨a, zs, rfl, hs, few, q⟩ := h
  obtain ⟨u, rfl, ru⟩ := rxs.one
  cases ru
  obtain ⟨its, rv, ⟨o, n, ho, hcl, _, hd⟩, _⟩ := I.list hs
  refine set_of_list zs (I.ok.hd hc) ⟨o, ho, hcl, n, hd⟩ (ints_of_vals rv) (by unfold scanBound; omega) fun g tk c hS hc2 keep => ?_
  have free : H s.heap.objs.size = none := I.hok.fresh (Nat.le_refl _)
  exact ⟨.ref s.heap.objs.size, upd H s.heap.objs.size (SetO X.w s.heap.objs.size _ c), I.laid (t' := tk) keep (Nat.le_refl _) (setO_new hS), rfl, q _ c free hc2⟩
end
end Ml
/-! sorted of a set of ints of any size; a set of ints by two clauses without tests -/
namespace Ml
open PySem PySem.Spec PyProof.Rows L2
section
variable {X : Cx}
/-- one more int into a set -/
theorem put_int {pins : List (Addr × Obj)} {σ : L2.St} {H : Hp} {s : Shared} {E : Value → Shared → Prop} {D : Addr} {S : Int → Bool} {n : Nat} {y : Int} {t : Tok} {Q : Value → Shared → Prop} (I : Inv X pins σ H s) (hD : H D = some (SetO X.w D S n)) (room : n + 1 < scanBound)
    (h : ∀ z, Inv X pins σ (upd H D (SetO X.w D (fun j => S j || decide (j = y)) (if S y = true then n else n + 1))) z → Q .none z) : wpAny (model X.prog X.w) X.A (call (.builtin "set.add") [.ref D, .int y t]) Q E s := by
  refine setR_add (setO_get I hD) room fun g sb new => h _ (I.write (e := D) (t' := s.toks + 1) (by rw [hD]; trivial) (.inl rfl) (fun b u hb hu => (sb.2 b hb).trans hu) ?_ (setO_new new))
  obtain ⟨o, _, _, _, ho, _⟩ := new
  exact ⟨o, ho⟩
end
/-! ### the two clauses at the machine -/
end Ml
namespace Ml
open PySem PySem.Spec PyProof.Rows L2
/-! ### a set of a tuple; its length; the greatest, or a default -/
section
variable {X : Cx}
theorem nd_len : ∀ {l m : List Int}, l.Nodup → m.Nodup → (∀ k, k ∈ l ↔ k ∈ m) → l.length = m.length := fun hl hm h => (List.perm_ext_iff_of_nodup hl hm |>.mpr h).length_eq
theorem sub_len : ∀ (zs l : List Int), l.Nodup → (∀ k ∈ l, k ∈ zs) → l.length ≤ zs.length ∧ (¬ zs.Nodup → l.length < zs.length)
  | [], l, _, h => by
    have : l = [] := List.eq_nil_iff_forall_not_mem.mpr fun k hk => by simpa using h k hk
    subst this
    exact ⟨Nat.le_refl _, fun h => absurd List.nodup_nil h⟩
  | z :: r, l, nd, h => by
    have h1 : ∀ k ∈ l.erase z, k ∈ r := fun k hk => by
      obtain ⟨a, b⟩ := (List.Nodup.mem_erase_iff nd).mp hk
      rcases List.mem_cons.mp (h k b) with e | e
      · exact absurd e a
      · exact e
    obtain ⟨i1, i2⟩ := sub_len r (l.erase z) (nd.erase z) h1
    have hl : l.length ≤ (l.erase z).length + 1 := by
      by_cases hz : z ∈ l
      · rw [List.length_erase_of_mem hz]
        have := List.length_pos_of_mem hz
        omega
      · rw [List.erase_of_not_mem hz]
        omega
    refine ⟨by show l.length ≤ r.length + 1; omega, fun hn => ?_⟩
    show l.length < r.length + 1
    by_cases hz : z ∈ r
    · have := (sub_len r l nd fun k hk => by
        rcases List.mem_cons.mp (h k hk) with e | e
        · rw [e]; exact hz
        · exact e).1
      omega
    · have := i2 (fun z' => hn (List.nodup_cons.mpr ⟨hz, z'⟩))
      omega
theorem cr_lenS : CallR X (.builtin "len") (fun xs H Q => ∃ a S n, xs = [V.ref a] ∧ H a = some (SetO X.w a S n) ∧ n ≤ 2000 ∧ Q (.int (n : Int)) H) := by
  intro pins s σ H xs us Q I r h
  obtain ⟨a, S, n, rfl, ha, few, q⟩ := h
  rw [Vals.ref1 r]
  obtain ⟨o, es, ep, t, ho, hex, hd, _, _, _, _, hf, hn, _⟩ := setO_get I ha
  exact call_len_set ho hex hd hf (by rw [hn]; omega) ⟨.int (n : Int), H, I.tok _, ⟨_, by rw [hn]⟩, q⟩
end
end Ml
namespace Ml
open PySem PySem.Spec PyProof.Rows L2
/-! ### data at any depth -/
mutual
theorem Dp.same {K : PySem.W.Frag} {H H' : Hp} (e : Sm H H') : ∀ (d : PyData) (v : V), Dp K H v d → Dp K H' v d
  | .none, _, h => by cases h; exact .non
  | .bool b, _, h => by cases h; exact .bl b
  | .int i, _, h => by cases h; exact .int i
  | .str x, _, h => by cases h; exact .str x
  | .list ds, _, h => by
    cases h with
    | lst hs ha => exact .lst (e.sqL hs) (Dp.sameAll e ds _ ha)
  | .tuple ds, _, h => by
    cases h with
    | tup hs ha => exact .tup (e.sqT hs) (Dp.sameAll e ds _ ha)
  | .dict _, _, h => by cases h
theorem Dp.sameAll {K : PySem.W.Frag} {H H' : Hp} (e : Sm H H') : ∀ (ds : List PyData) (vs : List V), DpAll K H vs ds → DpAll K H' vs ds
  | [], _, h => by cases h; exact .nil
  | d :: ds, _, h => by
    cases h with
    | cons h1 h2 => exact .cons (Dp.same e d _ h1) (Dp.sameAll e ds _ h2)
end
theorem dp_ints {K : PySem.W.Frag} {H : Hp} : ∀ ns : List Int, DpAll K H (ns.map V.int) (ns.map PyData.int)
  | [] => .nil
  | n :: ns => .cons (.int n) (dp_ints ns)
theorem ty_tup {K : PySem.W.Frag} {H : Hp} {a : Addr} {xs : List V} (h : SqT K H a xs) : TyX K H (.ref a) (.type "tuple") := by
  rcases h with (h | ⟨o, h⟩) | ⟨o, its, n, h1, h2, _⟩
  · exact .base (.tup h)
  · exact .fTuple h
  · exact .kTuple h1 h2
def tyN : PyData → String
  | .none => "NoneType"
  | .bool _ => "bool"
  | .int _ => "int"
  | .str _ => "str"
  | .tuple _ => "tuple"
  | .list _ => "list"
  | .dict _ => "dict"
end Ml
namespace Ml
open PySem PySem.Spec PyProof.Rows L2
/-! ### repr of data -/
/-- a row, a table as data -/
def rowD (ns : List Int) : PyData := .tuple (ns.map PyData.int)
def tabD (t : List (List Int)) : PyData := .tuple (t.map rowD)
theorem IT.dp {K : PySem.W.Frag} {H : Hp} {v : V} {ns : List Int} (h : IT K H v ns) : Dp K H v (rowD ns) := by
  obtain ⟨p, rfl, hs⟩ := h
  exact .tup hs (dp_ints ns)
theorem rows_dp {K : PySem.W.Frag} {H : Hp} : ∀ {vs : List V} {t : List (List Int)}, Rows K H vs t → DpAll K H vs (t.map rowD)
  | [], [], _ => .nil
  | [], _ :: _, h => by have := h.1; simp at this
  | _ :: _, [], h => by have := h.1; simp at this
  | v :: vs, ns :: t, h => by
    refine .cons (h.2 0 v ns rfl rfl).dp (rows_dp (vs := vs) (t := t) ⟨by have := h.1; simpa using this, fun i u ms a b => h.2 (i + 1) u ms (by simpa using a) (by simpa using b)⟩)
theorem TT.dp {K : PySem.W.Frag} {H : Hp} {v : V} {t : List (List Int)} (h : TT K H v t) : Dp K H v (tabD t) := by
  obtain ⟨p, vs, rfl, hs, hR⟩ := h
  exact .tup hs (rows_dp hR)
theorem WT.mem {t : List (List Int)} (h : WT t) : ∀ ns ∈ t, ∀ x ∈ ns, LvOk x := fun ns hns => by
  obtain ⟨i, hi, ei⟩ := List.getElem_of_mem hns
  exact (h i ns (by rw [List.getElem?_eq_getElem hi, ei])).2
theorem dep_ints : ∀ ns : List Int, PyData.depthAll (ns.map PyData.int) = 0
  | [] => by simp [PyData.depthAll]
  | n :: ns => by simp [PyData.depthAll, PyData.depth, dep_ints ns]
theorem dep_rows : ∀ t : List (List Int), PyData.depthAll (t.map rowD) ≤ 1
  | [] => by simp [PyData.depthAll]
  | n :: ns => by
    have h1 := dep_ints n
    have h2 := dep_rows ns
    simp only [List.map_cons, PyData.depthAll, rowD, PyData.depth, h1]
    omega
/-! ### a def that is called where nothing is being shown -/
structure GOk (P : Program) (w : World) (K : PySem.W.Frag) (mg : Str → Option Value) (base : Heap) (k : Nat) (f : Addr) (fd : FuncData) (ps : List Str) (sp : Sp) : Prop where
  len : ∀ vs H Q E, sp vs H Q E → vs.length = ps.length
  go : ∀ (A : Around) (outer : List Env) (s : Shared) (H : Hp) (args : Args) (us : List Value) (vs : List V) (Q : VK) (E : XK), A.guards = some [] → Room k A → Env0 P w K mg base A outer s H → BindsTo s fd args (ps.zip us) → Vals vs us → sp vs H Q E →
    codeAny (model P w) A (.call (.ref f) args) (CR CX0 outer P w H s Q E) s
/-! ### the law's own call -/
end Ml
namespace Ml
open PySem PySem.Spec PyProof.Rows L2
section
variable {X : Cx}
/-- one pair of ints after another -/
def rGtP (K : PySem.W.Frag) : R2 := fun x y H Q => ∃ (a b : Addr) (i j k l : Int), x = .ref a ∧ y = .ref b ∧ SqT K H a [.int i, .int j] ∧ SqT K H b [.int k, .int l] ∧ Q (.bl (if i = k then decide (l < j) else decide (k < i))) H
theorem op_gtP (hu : X.A.units < cLine) : OpR X (compareOp .Gt) (rGtP X.K) := by
  intro pins s σ H x y v u Q I rx ry h
  obtain ⟨a, b, i, j, k, l, rfl, rfl, ha, hb, q⟩ := h
  cases (show v = Value.ref a from rx)
  cases (show u = Value.ref b from ry)
  obtain ⟨its, r1, t1, _⟩ := I.tuple ha
  obtain ⟨its2, r2, t2, _⟩ := I.tuple hb
  cases r1 with
  | @cons _ v1 _ _ p1 r1 =>
    cases r1 with
    | @cons _ v2 _ _ p2 r1 =>
      cases r1
      cases r2 with
      | @cons _ u1 _ _ p3 r2 =>
        cases r2 with
        | @cons _ u2 _ _ p4 r2 =>
          cases r2
          obtain ⟨k1, rfl⟩ := p1
          obtain ⟨k2, rfl⟩ := p2
          obtain ⟨k3, rfl⟩ := p3
          obtain ⟨k4, rfl⟩ := p4
          refine (Ob.RcOp.tuples_gt (e := fun n => if n = 0 then i == k else j == l) (r := fun n => if n = 0 then decide (k < i) else decide (l < j)) (show s.heap.IsTuple a _ from t1) (show s.heap.IsTuple b _ from t2) hu (fun m h1 h2 => ?_) (fun m h1 h2 _ => ?_)) X.prog X.w X.xe _ ?_
          · match m, h1, h2 with
            | 0, _, _ => exact fun prog w E Q q => wpAny_eqBool_int q
            | 1, _, _ => exact fun prog w E Q q => wpAny_eqBool_int q
            | m + 2, h1, _ => exact absurd h1 (by simp)
          · match m, h1, h2 with
            | 0, _, _ => exact Ob.RcOp.gt_int _ _ _ _
            | 1, _, _ => exact Ob.RcOp.gt_int _ _ _ _
            | m + 2, h1, _ => exact absurd h1 (by simp)
          · refine ⟨.bl (if i = k then decide (l < j) else decide (k < i)), H, I, ?_, q⟩
            show Value.bool _ = Value.bool _
            congr 1
            show Ob.lexAt _ _ _ 0 2 = _
            rw [Ob.lexAt_succ, Ob.lexAt_succ, Ob.lexAt_zero]
            by_cases e : i = k
            · rw [if_pos e, if_pos (by simp [e])]
              by_cases e2 : j = l
              · rw [if_pos (by simp [e2])]
                simp [e2]
              · rw [if_neg (by simp [e2])]
                simp
            · rw [if_neg e, if_neg (by simp [e])]
              simp
/-- set(l), and whether one item alone is in it -/
theorem setR_one {w : World} {h : Heap} {a : Addr} {zs : List Int} {c : Nat} (R : SetR w h a (fun j => decide (j ∈ zs)) c) : c = 1 ↔ ∃ k, zs ≠ [] ∧ ∀ z ∈ zs, z = k := by
  obtain ⟨o, es, ep, t, _, _, _, _, nd, mem, _, _, hn, _⟩ := R
  have hl : (es.toList.map keyOf).length = c := by rw [List.length_map, Array.length_toList]; exact hn
  have mem' : ∀ k, k ∈ es.toList.map keyOf ↔ k ∈ zs := fun k => by rw [← mem k, decide_eq_true_iff]
  generalize es.toList.map keyOf = l at nd hl mem'
  constructor
  · intro e
    rw [e] at hl
    obtain ⟨k, rfl⟩ := List.length_eq_one_iff.mp hl
    refine ⟨k, fun z => ?_, fun z hz => List.mem_singleton.mp ((mem' z).mpr hz)⟩
    have := (mem' k).mp (List.mem_singleton.mpr rfl)
    rw [z] at this
    cases this
  · rintro ⟨k, h1, h2⟩
    have hk : k ∈ zs := by
      obtain ⟨z, hz⟩ := List.exists_mem_of_ne_nil _ h1
      rw [← h2 z hz]
      exact hz
    have := nd_len nd (show ([k] : List Int).Nodup by simp) fun z => by
      rw [mem', List.mem_singleton]
      exact ⟨fun h => h2 z h, fun h => h ▸ hk⟩
    rw [← hl, this]
    rfl
def rSetL2 (K : PySem.W.Frag) (w : World) : List V → Hp → VK → Prop := fun vs H Q => ∃ (a : Addr) (zs : List Int), vs = [V.ref a] ∧ SqL K H a (zs.map V.int) ∧ zs.length ≤ 1000 ∧
  ∀ (p : Addr) (c : Nat), H p = none → c ≤ zs.length → (c = 1 ↔ ∃ k, zs ≠ [] ∧ ∀ z ∈ zs, z = k) → Q (.ref p) (upd H p (SetO w p (fun j => decide (j ∈ zs)) c))
theorem cr_setL2 (hc : X.calm = true) : CallR X (.type "set") (rSetL2 X.K X.w) := by
  intro pins s σ H xs us Q I rxs h
  obtain ⟨a, zs, rfl, hs, few, q⟩ := h
  obtain ⟨u, rfl, ru⟩ := rxs.one
  cases ru
  obtain ⟨its, rv, ⟨o, n, ho, hcl, _, hd⟩, _⟩ := I.list hs
  refine set_of_list zs (I.ok.hd hc) ⟨o, ho, hcl, n, hd⟩ (ints_of_vals rv) (by unfold scanBound; omega) fun g tk c hS hc2 keep => ?_
  have free : H s.heap.objs.size = none := I.hok.fresh (Nat.le_refl _)
  exact ⟨.ref s.heap.objs.size, upd H s.heap.objs.size (SetO X.w s.heap.objs.size _ c), I.laid (t' := tk) keep (Nat.le_refl _) (setO_new hS), rfl, q _ c free hc2 (setR_one hS)⟩
end
end Ml
namespace Ml
open PySem PySem.Spec PyProof.Rows L2
/-! ### pairs of items -/
def prow (n i : Nat) : List (Nat × Nat) := (List.range (n - (i + 1))).map fun j => (i, i + 1 + j)
def ppre (n i : Nat) : List (Nat × Nat) := (List.range i).flatMap (prow n)
theorem ppre_succ (n i : Nat) : ppre n (i + 1) = ppre n i ++ prow n i := by
  unfold ppre
  rw [List.range_succ, List.flatMap_append]
  simp
theorem prow_len (n i : Nat) : (prow n i).length = n - (i + 1) := by
  unfold prow
  rw [List.length_map, List.length_range]
theorem prow_take (n i j : Nat) (h : j < n - (i + 1)) : (prow n i).take (j + 1) = (prow n i).take j ++ [(i, i + 1 + j)] := by
  have e : (prow n i)[j]? = some (i, i + 1 + j) := by
    unfold prow
    rw [List.getElem?_map, List.getElem?_range h]
    rfl
  rw [List.take_add_one, e]
  rfl
theorem ppre_len_le (n : Nat) : ∀ i, (ppre n i).length ≤ i * n
  | 0 => Nat.zero_le _
  | i + 1 => by
    have ih := ppre_len_le n i
    rw [ppre_succ, List.length_append, prow_len, Nat.succ_mul]
    omega
theorem mem_prow {n i a b : Nat} : (a, b) ∈ prow n i ↔ a = i ∧ i < b ∧ b < n := by
  unfold prow
  rw [List.mem_map]
  constructor
  · rintro ⟨j, hj, e⟩
    have h1 := List.mem_range.mp hj
    have e1 : i = a := congrArg Prod.fst e
    have e2 : i + 1 + j = b := congrArg Prod.snd e
    omega
  · rintro ⟨rfl, h1, h2⟩
    exact ⟨b - (a + 1), List.mem_range.mpr (by omega), by rw [show a + 1 + (b - (a + 1)) = b by omega]⟩
theorem mem_ppre {n i a b : Nat} : (a, b) ∈ ppre n i ↔ a < i ∧ a < b ∧ b < n := by
  unfold ppre
  rw [List.mem_flatMap]
  constructor
  · rintro ⟨j, hj, e⟩
    have h1 := List.mem_range.mp hj
    obtain ⟨rfl, h2, h3⟩ := mem_prow.mp e
    exact ⟨h1, h2, h3⟩
  · rintro ⟨h1, h2, h3⟩
    exact ⟨a, List.mem_range.mpr h1, mem_prow.mpr ⟨rfl, h2, h3⟩⟩
def Plt (p q : Nat × Nat) : Prop := p.1 < q.1 ∨ (p.1 = q.1 ∧ p.2 < q.2)
theorem prow_sorted (n i : Nat) : (prow n i).Pairwise Plt := by
  unfold prow
  rw [List.pairwise_map]
  refine List.Pairwise.imp ?_ (List.pairwise_lt_range (n := n - (i + 1)))
  intro a b h
  exact .inr ⟨rfl, by show i + 1 + a < i + 1 + b; omega⟩
theorem ppre_sorted (n : Nat) : ∀ i, (ppre n i).Pairwise Plt
  | 0 => List.Pairwise.nil
  | i + 1 => by
    rw [ppre_succ, List.pairwise_append]
    refine ⟨ppre_sorted n i, prow_sorted n i, fun p hp q hq => ?_⟩
    obtain ⟨a, b⟩ := p
    obtain ⟨a', b'⟩ := q
    have h1 := mem_ppre.mp hp
    have h2 := mem_prow.mp hq
    exact .inl (by show a < a'; omega)
/-- a place in the list of pairs -/
theorem pair_before {n i : Nat} {l : List (Nat × Nat)} (hs : l.Pairwise Plt) {p q : Nat × Nat} {k : Nat} (hp : l[k]? = some p) (hq : q ∈ l) (h : Plt q p) : ∃ m, m < k ∧ l[m]? = some q := by
  obtain ⟨m, hm, e⟩ := List.getElem_of_mem hq
  obtain ⟨hk, ek⟩ := List.getElem?_eq_some_iff.mp hp
  refine ⟨m, ?_, by rw [List.getElem?_eq_getElem hm, e]⟩
  rcases Nat.lt_trichotomy m k with z | z | z
  · exact z
  · subst z
    rw [e] at ek
    subst ek
    rcases h with h | ⟨_, h⟩ <;> exact absurd h (Nat.lt_irrefl _)
  · have w := List.pairwise_iff_getElem.mp hs k m hk hm z
    rw [ek, e] at w
    rcases h with h | ⟨h1, h2⟩ <;> rcases w with w | ⟨w1, w2⟩ <;> omega
/-- the pairs as tuples in the heap -/
def Prs (K : PySem.W.Frag) (H : Hp) (vs : List V) (ps : List (Nat × Nat)) : Prop := vs.length = ps.length ∧ ∀ (i : Nat) v p, vs[i]? = some v → ps[i]? = some p → ∃ a, v = .ref a ∧ SqT K H a [.int (p.1 : Int), .int (p.2 : Int)]
theorem Prs.nil {K : PySem.W.Frag} {H : Hp} : Prs K H [] [] := ⟨rfl, fun i v p a _ => by simp at a⟩
theorem Prs.same {K : PySem.W.Frag} {H H' : Hp} {vs : List V} {ps : List (Nat × Nat)} (h : Prs K H vs ps) (e : Sm H H') : Prs K H' vs ps :=
  ⟨h.1, fun i v p a b => let ⟨q, h1, h2⟩ := h.2 i v p a b; ⟨q, h1, e.sqT h2⟩⟩
theorem Prs.upd {K : PySem.W.Frag} {H : Hp} {p : Addr} {ys zs : List V} {vs : List V} {ps : List (Nat × Nat)} (h : Prs K H vs ps) (hp : H p = some (.lst ys)) : Prs K (L2.upd H p (.lst zs)) vs ps :=
  ⟨h.1, fun i v q a b => let ⟨r, h1, h2⟩ := h.2 i v q a b; ⟨r, h1, sqT_upd hp h2⟩⟩
theorem Prs.append {K : PySem.W.Frag} {H : Hp} {vs ws : List V} {ps qs : List (Nat × Nat)} (h : Prs K H vs ps) (g : Prs K H ws qs) : Prs K H (vs ++ ws) (ps ++ qs) := by
  refine ⟨by rw [List.length_append, List.length_append, h.1, g.1], fun i u p a b => ?_⟩
  by_cases hi : i < vs.length
  · rw [List.getElem?_append_left hi] at a
    rw [List.getElem?_append_left (by rw [← h.1]; exact hi)] at b
    exact h.2 i u p a b
  · rw [List.getElem?_append_right (by omega)] at a
    rw [List.getElem?_append_right (by rw [← h.1]; omega), ← h.1] at b
    exact g.2 _ u p a b
theorem Prs.one {K : PySem.W.Frag} {H : Hp} {a : Addr} {i j : Nat} (h : SqT K H a [.int (i : Int), .int (j : Int)]) : Prs K H [.ref a] [(i, j)] := by
  refine ⟨rfl, fun k v p e1 e2 => ?_⟩
  cases k with
  | zero =>
    cases Option.some.inj e1
    cases Option.some.inj e2
    exact ⟨a, rfl, h⟩
  | succ k => simp at e1
/-! ### three levels -/
def Ev3 (a b c : Int) : Prop := (a = b ∧ c ≤ a) ∨ (a = c ∧ b ≤ a) ∨ (b = c ∧ a ≤ b)
theorem sum_perm : ∀ {l m : List Int}, l.Perm m → l.sum = m.sum := by
  intro l m h
  induction h with
  | nil => rfl
  | cons x _ ih => rw [List.sum_cons, List.sum_cons, ih]
  | swap x y l => rw [List.sum_cons, List.sum_cons, List.sum_cons, List.sum_cons]; omega
  | trans _ _ ih1 ih2 => rw [ih1, ih2]
theorem sorted3 {a b c : Int} {ns : List Int} (hp : ns.Perm [a, b, c]) (hs : ns.Pairwise (· ≤ ·)) : ∃ x y z, ns = [x, y, z] ∧ (y = z ↔ Ev3 a b c) := by
  have hl := hp.length_eq
  match ns, hp, hs, hl with
  | [x, y, z], hp, hs, _ =>
    refine ⟨x, y, z, rfl, ?_⟩
    have m : ∀ v, v ∈ [x, y, z] ↔ v ∈ [a, b, c] := fun v => hp.mem_iff
    have mx := (m x).mp (by simp)
    have my := (m y).mp (by simp)
    have mz := (m z).mp (by simp)
    have ma := (m a).mpr (by simp)
    have mb := (m b).mpr (by simp)
    have mc := (m c).mpr (by simp)
    have hsum := sum_perm hp
    simp only [List.mem_cons, List.not_mem_nil, or_false] at mx my mz ma mb mc
    simp only [List.sum_cons, List.sum_nil] at hsum
    simp only [List.pairwise_cons, List.mem_cons, List.not_mem_nil, or_false, forall_eq_or_imp, forall_eq] at hs
    obtain ⟨⟨h1, h2⟩, h3, _⟩ := hs
    unfold Ev3
    rcases mx with rfl | rfl | rfl <;> rcases my with rfl | rfl | rfl <;> rcases mz with rfl | rfl | rfl <;> omega
/-- three items of a table -/
def Ev (t : List (List Int)) (i j k : Nat) : Prop := Ev3 (lev t i j) (lev t i k) (lev t j k)
def Triple (n i j k : Nat) : Prop := i < j ∧ j < k ∧ k < n
def Tlt (i j k i' j' k' : Nat) : Prop := i < i' ∨ (i = i' ∧ (j < j' ∨ (j = j' ∧ k < k')))
def AllEven (t : List (List Int)) : Prop := ∀ i j k, Triple t.length i j k → Ev t i j k
def FirstUneven (t : List (List Int)) (i j k : Nat) : Prop := Triple t.length i j k ∧ ¬ Ev t i j k ∧ ∀ i' j' k', Triple t.length i' j' k' → Tlt i' j' k' i j k → Ev t i' j' k'
theorem first_not_all {t : List (List Int)} {i j k : Nat} (h : FirstUneven t i j k) (g : AllEven t) : False := h.2.1 (g i j k h.1)
/-- what a search over pairs and thirds has seen -/
theorem first_of {t : List (List Int)} {n m a b k : Nat} (hn : n = t.length) (hp : (ppre n n)[m]? = some (a, b)) (seen : ∀ q, q < m → ∀ a' b', (ppre n n)[q]? = some (a', b') → ∀ k', b' < k' → k' < n → Ev t a' b' k')
    (seen2 : ∀ k', b < k' → k' < k → Ev t a b k') (hk : b < k ∧ k < n) (hno : ¬ Ev t a b k) : FirstUneven t a b k := by
  have hab := mem_ppre.mp (List.mem_of_getElem? hp)
  subst hn
  refine ⟨⟨hab.2.1, hk.1, hk.2⟩, hno, fun i' j' k' ht hlt => ?_⟩
  obtain ⟨t1, t2, t3⟩ := ht
  by_cases e : i' = a ∧ j' = b
  · obtain ⟨rfl, rfl⟩ := e
    refine seen2 k' t2 ?_
    unfold Tlt at hlt
    omega
  · have hlt2 : Plt (i', j') (a, b) := by
      unfold Tlt at hlt
      unfold Plt
      show i' < a ∨ (i' = a ∧ j' < b)
      omega
    obtain ⟨q, hq, eq⟩ := pair_before (n := 0) (i := 0) (ppre_sorted t.length t.length) hp (mem_ppre.mpr (show i' < t.length ∧ i' < j' ∧ j' < t.length from ⟨by omega, t1, by omega⟩)) hlt2
    exact seen q hq i' j' eq k' t2 t3
theorem all_of {t : List (List Int)} {n : Nat} (hn : n = t.length) (seen : ∀ q, q < (ppre n n).length → ∀ a' b', (ppre n n)[q]? = some (a', b') → ∀ k', b' < k' → k' < n → Ev t a' b' k') : AllEven t := by
  subst hn
  intro i j k ⟨h1, h2, h3⟩
  obtain ⟨q, hq, eq⟩ := List.getElem_of_mem (mem_ppre.mpr (show i < t.length ∧ i < j ∧ j < t.length from ⟨by omega, h1, by omega⟩))
  exact seen q hq i j (by rw [List.getElem?_eq_getElem hq, eq]) k h2 h3
end Ml
namespace Ml
open PySem PySem.Spec PyProof.Rows L2
/-! ### lists of ints compared -/
theorem eqv_ints : ∀ (a b : List Int), PyData.eqvAll (a.map PyData.int) (b.map PyData.int) = decide (a = b)
  | [], [] => by simp [PyData.eqvAll]
  | [], b :: m => by simp [PyData.eqvAll]
  | a :: l, [] => by simp [PyData.eqvAll]
  | a :: l, b :: m => by
    have ih := eqv_ints l m
    simp only [List.map_cons, PyData.eqvAll, PyData.eqv, ih]
    by_cases h : a = b
    · subst h
      by_cases h2 : l = m
      · subst h2; simp
      · simp [h2]
    · simp [h]
theorem eqv_tup (a b : List Int) : PyData.eqv (.tuple (a.map PyData.int)) (.tuple (b.map PyData.int)) = decide (a = b) := by
  simp only [PyData.eqv, eqv_ints]
theorem lay_ints : ∀ ns : List Int, PyData.canLayAll0 (ns.map PyData.int) = true
  | [] => by simp [PyData.canLayAll0]
  | n :: ns => by simp [PyData.canLayAll0, PyData.canLay0, lay_ints ns]
theorem deep_ints : ∀ ns : List Int, PyData.depthAll (ns.map PyData.int) = 0
  | [] => by simp [PyData.depthAll]
  | n :: ns => by simp [PyData.depthAll, PyData.depth, deep_ints ns]
theorem shaped_tup (ns : List Int) : SeqAt.shaped (.tuple (ns.map PyData.int)) = true := by
  show ((PyData.tuple (ns.map PyData.int)).canLay0 && decide ((PyData.tuple (ns.map PyData.int)).depth ≤ 64)) = true
  simp [PyData.canLay0, PyData.depth, lay_ints ns, deep_ints ns]
theorem dp_tup {K : PySem.W.Frag} {H : Hp} {p : Addr} {ns : List Int} (h : SqT K H p (ns.map V.int)) : Dp K H (.ref p) (.tuple (ns.map PyData.int)) := .tup h (dp_ints ns)
/-! ### what being nested means -/
def Ultra (t : List (List Int)) : Prop := ∀ i j k, i < t.length → j < t.length → k < t.length → lev t i k ≤ max (lev t i j) (lev t j k)
theorem lev_self (t : List (List Int)) (i : Nat) : lev t i i = 0 := by
  unfold lev
  rw [if_pos rfl]
theorem lev_nn {t : List (List Int)} (h : WT t) {i j : Nat} (hi : i < t.length) (hj : j < t.length) : 0 ≤ lev t i j := by
  by_cases e : i = j
  · rw [e, lev_self]
    exact Int.le_refl 0
  · have := (h.lev hi hj e).1
    omega
theorem Ev.sym {t : List (List Int)} {i j k : Nat} (h : Ev t i j k) : lev t i k ≤ max (lev t i j) (lev t j k) ∧ lev t i j ≤ max (lev t i k) (lev t j k) ∧ lev t j k ≤ max (lev t i j) (lev t i k) := by
  unfold Ev Ev3 at h
  omega
theorem even_of_ultra {t : List (List Int)} (h : Ultra t) : AllEven t := by
  intro i j k ⟨h1, h2, h3⟩
  have a := h i j k (by omega) (by omega) h3
  have b := h i k j (by omega) h3 (by omega)
  have c := h j i k (by omega) (by omega) h3
  rw [lev_comm t k j] at b
  rw [lev_comm t j i] at c
  unfold Ev Ev3
  omega
end Ml
namespace Ml
open PySem PySem.Spec PyProof.Rows L2
/-! ### lowest ways -/
def fw (f : Nat → Nat → Int) : Nat → Nat → Nat → Int
  | 0, i, j => f i j
  | k + 1, i, j => min (fw f k i j) (max (fw f k i k) (fw f k k j))
theorem fw_le {f : Nat → Nat → Int} : ∀ (k i j : Nat), fw f k i j ≤ f i j
  | 0, i, j => Int.le_refl _
  | k + 1, i, j => by
    have := fw_le (f := f) k i j
    show min (fw f k i j) (max (fw f k i k) (fw f k k j)) ≤ f i j
    omega
theorem fw_nn {f : Nat → Nat → Int} {n : Nat} (h : ∀ i j, i < n → j < n → 0 ≤ f i j) : ∀ (k i j : Nat), k ≤ n → i < n → j < n → 0 ≤ fw f k i j
  | 0, i, j, _, hi, hj => h i j hi hj
  | k + 1, i, j, hk, hi, hj => by
    have a := fw_nn h k i j (by omega) hi hj
    have b := fw_nn h k i k (by omega) hi (by omega)
    have c := fw_nn h k k j (by omega) (by omega) hj
    show 0 ≤ min (fw f k i j) (max (fw f k i k) (fw f k k j))
    omega
theorem fw_sym {f : Nat → Nat → Int} (h : ∀ i j, f i j = f j i) : ∀ (k i j : Nat), fw f k i j = fw f k j i
  | 0, i, j => h i j
  | k + 1, i, j => by
    have a := fw_sym h k i j
    have b := fw_sym h k i k
    have c := fw_sym h k k j
    show min (fw f k i j) (max (fw f k i k) (fw f k k j)) = min (fw f k j i) (max (fw f k j k) (fw f k k i))
    omega
theorem fw_diag {f : Nat → Nat → Int} {n : Nat} (h : ∀ i j, i < n → j < n → 0 ≤ f i j) (h0 : ∀ i, f i i = 0) (k i : Nat) (hk : k ≤ n) (hi : i < n) : fw f k i i = 0 := by
  have a := fw_nn h k i i hk hi hi
  have b := fw_le (f := f) k i i
  rw [h0 i] at b
  omega
/-- the middle's own rows and columns stay -/
theorem fw_row {f : Nat → Nat → Int} {n : Nat} (h : ∀ i j, i < n → j < n → 0 ≤ f i j) (h0 : ∀ i, f i i = 0) (k i : Nat) (hk : k < n) (hi : i < n) : fw f (k + 1) i k = fw f k i k ∧ fw f (k + 1) k i = fw f k k i := by
  have a := fw_nn h k i k (by omega) hi hk
  have b := fw_nn h k k i (by omega) hk hi
  have c := fw_diag h h0 k k (by omega) hk
  constructor
  · show min (fw f k i k) (max (fw f k i k) (fw f k k k)) = _
    omega
  · show min (fw f k k i) (max (fw f k k k) (fw f k k i)) = _
    omega
theorem fw_tri {f : Nat → Nat → Int} {n : Nat} (h : ∀ i j, i < n → j < n → 0 ≤ f i j) (h0 : ∀ i, f i i = 0) : ∀ (k : Nat), k ≤ n → ∀ i j m, i < n → j < n → m < k → fw f k i j ≤ max (fw f k i m) (fw f k m j)
  | 0, _, i, j, m, _, _, hm => absurd hm (Nat.not_lt_zero _)
  | k + 1, hk, i, j, m, hi, hj, hm => by
    have ih := fw_tri h h0 k (by omega)
    by_cases e : m = k
    · subst e
      have a := fw_row h h0 m i (by omega) hi
      have b := fw_row h h0 m j (by omega) hj
      rw [a.1, b.2]
      show min (fw f m i j) (max (fw f m i m) (fw f m m j)) ≤ _
      omega
    · have hm' : m < k := by omega
      have a := ih i j m hi hj hm'
      have b := ih k j m (by omega) hj hm'
      have c := ih i k m hi (by omega) hm'
      show min (fw f k i j) (max (fw f k i k) (fw f k k j)) ≤ max (min (fw f k i m) (max (fw f k i k) (fw f k k m))) (min (fw f k m j) (max (fw f k m k) (fw f k k j)))
      omega
/-- walks with steps at most h -/
inductive Wk (f : Nat → Nat → Int) (n : Nat) (h : Int) (i : Nat) : Nat → Prop
  | refl : Wk f n h i i
  | step {j k : Nat} : Wk f n h i j → j < n → k < n → f j k ≤ h → Wk f n h i k
theorem Wk.mono {f : Nat → Nat → Int} {n : Nat} {h h' : Int} {i j : Nat} (w : Wk f n h i j) (e : h ≤ h') : Wk f n h' i j := by
  induction w with
  | refl => exact .refl
  | step _ a b c ih => exact ih.step a b (Int.le_trans c e)
theorem Wk.trans {f : Nat → Nat → Int} {n : Nat} {h : Int} {i j k : Nat} (w : Wk f n h i j) (v : Wk f n h j k) : Wk f n h i k := by
  induction v with
  | refl => exact w
  | step _ a b c ih => exact ih.step a b c
theorem fw_walk {f : Nat → Nat → Int} {n : Nat} : ∀ (k i j : Nat), k ≤ n → i < n → j < n → Wk f n (fw f k i j) i j
  | 0, i, j, _, hi, hj => Wk.refl.step hi hj (Int.le_refl _)
  | k + 1, i, j, hk, hi, hj => by
    have a := fw_walk (f := f) (n := n) k i j (by omega) hi hj
    have b := fw_walk (f := f) (n := n) k i k (by omega) hi (by omega)
    have c := fw_walk (f := f) (n := n) k k j (by omega) (by omega) hj
    show Wk f n (min (fw f k i j) (max (fw f k i k) (fw f k k j))) i j
    rcases Int.le_total (fw f k i j) (max (fw f k i k) (fw f k k j)) with z | z
    · rw [Int.min_eq_left z]
      exact a
    · rw [Int.min_eq_right z]
      exact (b.mono (by omega)).trans (c.mono (by omega))
/-! ### joining levels of a table -/
def jn (t : List (List Int)) (i j : Nat) : Int := fw (lev t) t.length i j
section
variable {t : List (List Int)} (hW : WT t)
include hW
theorem lev_nn' : ∀ i j, i < t.length → j < t.length → 0 ≤ lev t i j := fun i j hi hj => lev_nn hW hi hj
theorem jn_le (i j : Nat) : jn t i j ≤ lev t i j := fw_le _ _ _
theorem jn_nn {i j : Nat} (hi : i < t.length) (hj : j < t.length) : 0 ≤ jn t i j := fw_nn (lev_nn' hW) _ _ _ (Nat.le_refl _) hi hj
theorem jn_sym (i j : Nat) : jn t i j = jn t j i := fw_sym (lev_comm t) _ _ _
theorem jn_diag {i : Nat} (hi : i < t.length) : jn t i i = 0 := fw_diag (lev_nn' hW) (lev_self t) _ _ (Nat.le_refl _) hi
theorem jn_tri {i j k : Nat} (hi : i < t.length) (hj : j < t.length) (hk : k < t.length) : jn t i j ≤ max (jn t i k) (jn t k j) := fw_tri (lev_nn' hW) (lev_self t) _ (Nat.le_refl _) i j k hi hj hk
theorem jn_walk {i j : Nat} (hi : i < t.length) (hj : j < t.length) : Wk (lev t) t.length (jn t i j) i j := fw_walk _ i j (Nat.le_refl _) hi hj
theorem walk_jn {i j : Nat} {h : Int} (hi : i < t.length) (h0 : 0 ≤ h) (w : Wk (lev t) t.length h i j) : jn t i j ≤ h := by
  induction w with
  | refl => rw [jn_diag hW hi]; exact h0
  | @step j k _ a b c ih =>
    have x := jn_tri hW hi b a
    have y := jn_le hW j k
    omega
theorem jn_pos {i j : Nat} (hi : i < t.length) (hj : j < t.length) (hij : i ≠ j) : LvOk (jn t i j) := by
  have a := jn_le hW i j
  have b := (hW.lev hi hj hij).2
  refine ⟨?_, by omega⟩
  have key : ∀ {j : Nat}, Wk (lev t) t.length 0 i j → i = j := fun w => by
    induction w with
    | refl => rfl
    | @step j k _ x y z ih =>
      subst ih
      refine Classical.byContradiction fun ne => ?_
      have := (hW.lev x y ne).1
      omega
  refine Classical.byContradiction fun lt => hij (key ((jn_walk hW hi hj).mono (by omega)))
end
/-! ### simple paths -/
structure Simple (n : Nat) (p : List Nat) (i j : Nat) : Prop where
  hd : p.head? = some i
  lst : p.getLast? = some j
  nod : p.Nodup
  lt : ∀ x ∈ p, x < n
def Steps (f : Nat → Nat → Int) (h : Int) (p : List Nat) : Prop := ∀ (m a b : Nat), p[m]? = some a → p[m + 1]? = some b → f a b ≤ h
end Ml
namespace Ml
open PySem PySem.Spec PyProof.Rows L2
/-! ### comprehensions over two at once -/
theorem lc_zipL {K : PySem.W.Frag} {a b : Addr} {xs ys : List V} {n : Nat} {g : TG} {tt : L2.TT} {te : TE} {vs : List Nat} {σ : L2.St} {H1 : Hp} {D : Addr} {Qd : Hp → Prop} (hn : n = min xs.length ys.length) (Pv : Nat → Hp → Prop) (h0 : Pv 0 (upd H1 D (.lst [])))
    (hq : ∀ i H, i ≤ n → Pv i H → SqL K H a xs ∧ SqL K H b ys)
    (hs : ∀ i x y T H, xs[i]? = some x → ys[i]? = some y → Pv i H → H T = none → g (.ref T) (wipe σ vs) (upd H T (.tup [x, y])) fun σ2 H2 => wipe σ2 vs = wipe σ vs ∧ tt σ2 H2 fun b H3 =>
      if b = true then te σ2 H3 fun y H4 => ∃ acc, H4 D = some (.lst acc) ∧ acc.length < sizeLine ∧ Pv (i + 1) (upd H4 D (.lst (acc ++ [y]))) else Pv (i + 1) H3) (hd : ∀ H, Pv n H → Qd H) :
    ∃ W : Nat → Nat → Hp → Prop, (∃ m, W 0 m (upd H1 D (.lst []))) ∧ ∀ i m H, W i m H →
      ((Itz K a b).stop i H ∧ Qd H) ∨ ((Itz K a b).go i H ∧ ∃ Nx : Hp → Prop, (∀ H', Nx H' → ∃ m', m' < m ∧ W (i + 1) m' H') ∧ ∀ x H', (Itz K a b).yld i H x H' → g x (wipe σ vs) H' fun σ2 H2 => wipe σ2 vs = wipe σ vs ∧ tt σ2 H2 fun b H3 =>
        if b = true then te σ2 H3 fun y H4 => ∃ acc, H4 D = some (.lst acc) ∧ acc.length < sizeLine ∧ Nx (upd H4 D (.lst (acc ++ [y]))) else Nx H3) := by
  refine ⟨fun i m H => m = n - i ∧ i ≤ n ∧ Pv i H, ⟨n, by simp, Nat.zero_le _, h0⟩, ?_⟩
  rintro i m H ⟨rfl, hi, p⟩
  obtain ⟨q1, q2⟩ := hq i H hi p
  by_cases hlt : i < n
  · have l1 : i < xs.length := by omega
    have l2 : i < ys.length := by omega
    refine .inr ⟨⟨xs, ys, _, _, q1, q2, List.getElem?_eq_getElem l1, List.getElem?_eq_getElem l2⟩, Pv (i + 1), fun H' p' => ⟨n - (i + 1), by omega, rfl, hlt, p'⟩, fun v H' y => ?_⟩
    obtain ⟨T, x, y, rfl, hT, rfl, f1, f2⟩ := y
    exact hs i x y T H (f1 xs q1) (f2 ys q2) p hT
  · have e : i = n := by omega
    subst e
    exact .inl ⟨⟨xs, ys, q1, q2, by omega⟩, hd H p⟩
/-! ### lists of lists of ints, each row its own object -/
def Rws (H : Hp) (ps : List Addr) (g : List (List Int)) : Prop := ps.length = g.length ∧ ps.Nodup ∧ ∀ (i : Nat) p ns, ps[i]? = some p → g[i]? = some ns → H p = some (.lst (ns.map V.int))
theorem Rws.same {H H' : Hp} {ps : List Addr} {g : List (List Int)} (h : Rws H ps g) (e : Sm H H') : Rws H' ps g := ⟨h.1, h.2.1, fun i p ns a b => e _ _ (h.2.2 i p ns a b)⟩
theorem Rws.nil {H : Hp} : Rws H [] [] := ⟨rfl, List.nodup_nil, fun i v ns a _ => by simp at a⟩
theorem Rws.at {H : Hp} {ps : List Addr} {g : List (List Int)} (h : Rws H ps g) {p : Addr} (hp : p ∈ ps) : ∃ ns : List Int, H p = some (.lst (ns.map V.int)) := by
  obtain ⟨i, hi, e⟩ := List.getElem_of_mem hp
  have hg : i < g.length := by rw [← h.1]; exact hi
  exact ⟨g[i], h.2.2 i p g[i] (by rw [List.getElem?_eq_getElem hi, e]) (List.getElem?_eq_getElem hg)⟩
theorem Rws.not_mem {H : Hp} {ps : List Addr} {g : List (List Int)} (h : Rws H ps g) {q : Addr} (hq : H q = none) : q ∉ ps := fun hp => by
  obtain ⟨ns, e⟩ := h.at hp
  rw [hq] at e
  cases e
/-- the list of the rows is no row -/
theorem Rws.outer {H : Hp} {ps : List Addr} {g : List (List Int)} (h : Rws H ps g) {o : Addr} (ho : H o = some (.lst (ps.map V.ref))) : o ∉ ps := fun hp => by
  obtain ⟨ns, e⟩ := h.at hp
  rw [ho] at e
  have e1 := HO.lst.inj (Option.some.inj e)
  cases ps with
  | nil => simp at hp
  | cons a b =>
    cases ns with
    | nil => simp at e1
    | cons c d => simp at e1
theorem Rws.upd {H : Hp} {ps : List Addr} {g : List (List Int)} {o : Addr} {x : HO} (h : Rws H ps g) (ho : o ∉ ps) : Rws (L2.upd H o x) ps g :=
  ⟨h.1, h.2.1, fun i p ns a b => by
    have ne : p ≠ o := fun e => ho (by rw [← e]; exact List.mem_of_getElem? a)
    rw [upd_ne ne]
    exact h.2.2 i p ns a b⟩
theorem Rws.snoc {H : Hp} {ps : List Addr} {g : List (List Int)} {q : Addr} {ns : List Int} (h : Rws H ps g) (hn : q ∉ ps) (hq : H q = some (.lst (ns.map V.int))) : Rws H (ps ++ [q]) (g ++ [ns]) := by
  refine ⟨by rw [List.length_append, List.length_append, h.1]; rfl, ?_, fun i p ms a b => ?_⟩
  · rw [List.nodup_append]
    refine ⟨h.2.1, by simp, fun a ha b hb => ?_⟩
    rw [List.mem_singleton.mp hb]
    exact fun e => hn (e ▸ ha)
  · by_cases hi : i < ps.length
    · rw [List.getElem?_append_left hi] at a
      rw [List.getElem?_append_left (by rw [← h.1]; exact hi)] at b
      exact h.2.2 i p ms a b
    · rw [List.getElem?_append_right (by omega)] at a
      rw [List.getElem?_append_right (by rw [← h.1]; omega), ← h.1] at b
      cases e : i - ps.length with
      | zero =>
        rw [e] at a b
        cases Option.some.inj a
        cases Option.some.inj b
        exact hq
      | succ k => rw [e] at a; simp at a
theorem Rws.get {H : Hp} {ps : List Addr} {g : List (List Int)} (h : Rws H ps g) {i : Nat} (hi : i < g.length) : ∃ p, ps[i]? = some p ∧ H p = some (.lst ((g.getD i []).map V.int)) := by
  have h1 : i < ps.length := by rw [h.1]; exact hi
  refine ⟨ps[i], List.getElem?_eq_getElem h1, ?_⟩
  rw [List.getD_eq_getElem?_getD, List.getElem?_eq_getElem hi]
  exact h.2.2 i _ _ (List.getElem?_eq_getElem h1) (List.getElem?_eq_getElem hi)
theorem refs_at {ps : List Addr} {i : Nat} {p : Addr} (h : ps[i]? = some p) : (ps.map V.ref)[i]? = some (.ref p) := by
  rw [List.getElem?_map, h]
  rfl
/-- a row stored into -/
theorem Rws.set {H : Hp} {ps : List Addr} {g : List (List Int)} {i : Nat} {p : Addr} {ns : List Int} (h : Rws H ps g) (hp : ps[i]? = some p) : Rws (L2.upd H p (.lst (ns.map V.int))) ps (g.set i ns) := by
  refine ⟨by rw [List.length_set]; exact h.1, h.2.1, fun j q ms a b => ?_⟩
  by_cases e : j = i
  · subst e
    rw [hp] at a
    cases Option.some.inj a
    have hl : j < g.length := by rw [← h.1]; exact (List.getElem?_eq_some_iff.mp hp).1
    rw [List.getElem?_set_self hl] at b
    cases Option.some.inj b
    exact upd_same
  · have ne : q ≠ p := fun z => by
      subst z
      have l1 := (List.getElem?_eq_some_iff.mp a)
      have l2 := (List.getElem?_eq_some_iff.mp hp)
      obtain ⟨l1, e1⟩ := l1
      obtain ⟨l2, e2⟩ := l2
      have nd := List.pairwise_iff_getElem.mp h.2.1
      rcases Nat.lt_or_gt_of_ne e with z | z
      · exact nd j i l1 l2 z (e1.trans e2.symm)
      · exact nd i j l2 l1 z (e2.trans e1.symm)
    rw [upd_ne ne]
    rw [List.getElem?_set_ne (fun z => e z.symm)] at b
    exact h.2.2 j q ms a b
/-! ### squares -/
def sqr (f : Nat → Nat → Int) (n : Nat) : List (List Int) := (List.range n).map fun i => (List.range n).map (f i)
theorem sqr_len (f : Nat → Nat → Int) (n : Nat) : (sqr f n).length = n := by
  unfold sqr
  rw [List.length_map, List.length_range]
theorem sqr_row (f : Nat → Nat → Int) {n i : Nat} (h : i < n) : (sqr f n).getD i [] = (List.range n).map (f i) := by
  unfold sqr
  rw [List.getD_eq_getElem?_getD, List.getElem?_map, List.getElem?_range h]
  rfl
theorem range_map_succ (f : Nat → Int) (n : Nat) : (List.range (n + 1)).map f = (List.range n).map f ++ [f n] := by
  rw [List.range_succ, List.map_append]
  rfl
theorem sqr_take (f : Nat → Nat → Int) {n i : Nat} (h : i < n) : (sqr f n).take (i + 1) = (sqr f n).take i ++ [(List.range n).map (f i)] := by
  have e : (sqr f n)[i]? = some ((List.range n).map (f i)) := by
    unfold sqr
    rw [List.getElem?_map, List.getElem?_range h]
    rfl
  rw [List.take_add_one, e]
  rfl
theorem range_at (f : Nat → Int) {n j : Nat} (h : j < n) : (((List.range n).map f).map V.int)[j]? = some (.int (f j)) := by
  rw [List.getElem?_map, List.getElem?_map, List.getElem?_range h]
  rfl
end Ml
namespace Ml
open PySem PySem.Spec PyProof.Rows L2
/-! ### triangles -/
def tri (F : Nat → Nat → Int) (n : Nat) : List (List Int) := (List.range n).map fun i => (List.range i).map (F i)
theorem tri_len (F : Nat → Nat → Int) (n : Nat) : (tri F n).length = n := by
  unfold tri
  rw [List.length_map, List.length_range]
theorem tri_get (F : Nat → Nat → Int) {n i : Nat} (h : i < n) : (tri F n)[i]? = some ((List.range i).map (F i)) := by
  unfold tri
  rw [List.getElem?_map, List.getElem?_range h]
  rfl
theorem tri_row (F : Nat → Nat → Int) {n i : Nat} (h : i < n) : (tri F n).getD i [] = (List.range i).map (F i) := by
  rw [List.getD_eq_getElem?_getD, tri_get F h]
  rfl
theorem tri_at (F : Nat → Nat → Int) {n i j : Nat} (h : i < n) (hj : j < i) : ((tri F n).getD i []).getD j 0 = F i j := by
  rw [tri_row F h, List.getD_eq_getElem?_getD, List.getElem?_map, List.getElem?_range hj]
  rfl
theorem tri_lev (F : Nat → Nat → Int) {n i j : Nat} (h : i < n) (hj : j < n) (hij : i ≠ j) : lev (tri F n) i j = F (max i j) (min i j) := by
  unfold lev
  rw [if_neg hij]
  exact tri_at F (by omega) (by omega)
theorem tri_congr {F G : Nat → Nat → Int} {n : Nat} (h : ∀ i j, i < n → j < i → F i j = G i j) : tri F n = tri G n := by
  unfold tri
  refine List.map_congr_left fun i hi => List.map_congr_left fun j hj => ?_
  exact h i j (List.mem_range.mp hi) (List.mem_range.mp hj)
theorem tri_lev_self {t : List (List Int)} (hW : WT t) : tri (lev t) t.length = t := by
  refine List.ext_getElem? fun i => ?_
  by_cases hi : i < t.length
  · rw [tri_get _ hi, List.getElem?_eq_getElem hi]
    congr 1
    obtain ⟨h1, h2⟩ := hW i t[i] (List.getElem?_eq_getElem hi)
    refine List.ext_getElem? fun j => ?_
    by_cases hj : j < i
    · rw [List.getElem?_map, List.getElem?_range hj, List.getElem?_eq_getElem (by omega)]
      simp only [Option.map_some, Option.some.injEq]
      unfold lev
      rw [if_neg (by omega), Nat.max_eq_left (by omega), Nat.min_eq_right (by omega), List.getD_eq_getElem?_getD, List.getD_eq_getElem?_getD, List.getElem?_eq_getElem hi]
      simp [h1, hj]
    · rw [List.getElem?_eq_none (by rw [List.length_map, List.length_range]; omega), List.getElem?_eq_none (by omega)]
  · rw [List.getElem?_eq_none (by rw [tri_len]; omega), List.getElem?_eq_none (by omega)]
theorem tri_wt {F : Nat → Nat → Int} {n : Nat} (h : ∀ i j, i < n → j < i → LvOk (F i j)) : WT (tri F n) := by
  intro i ns e
  have hi : i < n := by
    have := (List.getElem?_eq_some_iff.mp e).1
    rwa [tri_len] at this
  rw [tri_get _ hi] at e
  cases Option.some.inj e
  refine ⟨by rw [List.length_map, List.length_range], fun x hx => ?_⟩
  obtain ⟨j, hj, rfl⟩ := List.mem_map.mp hx
  exact h i j hi (List.mem_range.mp hj)
/-- the table of the joining levels -/
def jtab (t : List (List Int)) : List (List Int) := tri (jn t) t.length
theorem jtab_len (t : List (List Int)) : (jtab t).length = t.length := tri_len _ _
theorem jtab_lev {t : List (List Int)} (hW : WT t) {i j : Nat} (hi : i < t.length) (hj : j < t.length) : lev (jtab t) i j = jn t i j := by
  by_cases e : i = j
  · subst e
    rw [lev_self, jn_diag hW hi]
  · unfold jtab
    rw [tri_lev _ hi hj e]
    rcases Nat.lt_or_gt_of_ne e with z | z
    · rw [Nat.max_eq_right (by omega), Nat.min_eq_left (by omega)]
      exact jn_sym hW j i
    · rw [Nat.max_eq_left (by omega), Nat.min_eq_right (by omega)]
theorem jtab_wt {t : List (List Int)} (hW : WT t) : WT (jtab t) := tri_wt fun i j hi hj => jn_pos hW hi (by omega) (by omega)
end Ml
namespace Ml
open PySem PySem.Spec PyProof.Rows L2
/-! ### all paths -/
theorem nodup_len : ∀ (n : Nat) (s : List Nat), s.Nodup → (∀ x ∈ s, x < n) → s.length ≤ n
  | 0, s, _, h => by
    cases s with
    | nil => exact Nat.le_refl _
    | cons a b => exact absurd (h a List.mem_cons_self) (Nat.not_lt_zero _)
  | n + 1, s, nd, h => by
    by_cases hm : n ∈ s
    · have ih := nodup_len n (s.erase n) (nd.erase n) fun x hx => by
        have h1 := nd.mem_erase_iff.mp hx
        have := h x h1.2
        have := h1.1
        omega
      have := List.length_erase_of_mem hm
      omega
    · have ih := nodup_len n s nd fun x hx => by
        have := h x hx
        have : x ≠ n := fun e => hm (e ▸ hx)
        omega
      omega
structure Stub (n i : Nat) (s : List Nat) : Prop where
  hd : s.head? = some i
  nod : s.Nodup
  lt : ∀ x ∈ s, x < n
structure DInv (n i j : Nat) (S F : List (List Nat)) : Prop where
  st : ∀ s ∈ S, Stub n i s
  fo : ∀ p ∈ F, Simple n p i j
  all : ∀ p, Simple n p i j → p ∈ F ∨ ∃ s ∈ S, s <+: p
theorem DInv.start {n i j : Nat} (hi : i < n) : DInv n i j [[i]] [] := by
  refine ⟨fun s hs => ?_, fun p hp => by simp at hp, fun p hp => .inr ⟨[i], by simp, ?_⟩⟩
  · rw [List.mem_singleton.mp hs]
    exact ⟨rfl, by simp, fun x hx => by rw [List.mem_singleton.mp hx]; exact hi⟩
  · have := hp.hd
    cases p with
    | nil => cases this
    | cons a b =>
      cases Option.some.inj this
      exact ⟨b, rfl⟩
/-! ### heights -/
/-! ### rows put together -/
theorem Rows.append {K : PySem.W.Frag} {H : Hp} {vs us : List V} {t t' : List (List Int)} (h : Rows K H vs t) (h' : Rows K H us t') : Rows K H (vs ++ us) (t ++ t') := by
  refine ⟨by rw [List.length_append, List.length_append, h.1, h'.1], fun i u ms a b => ?_⟩
  by_cases hi : i < vs.length
  · rw [List.getElem?_append_left hi] at a
    rw [List.getElem?_append_left (by rw [← h.1]; exact hi)] at b
    exact h.2 i u ms a b
  · rw [List.getElem?_append_right (by omega)] at a
    rw [List.getElem?_append_right (by rw [← h.1]; omega), ← h.1] at b
    exact h'.2 _ u ms a b
theorem Rows.mem {K : PySem.W.Frag} {H : Hp} {vs : List V} {t : List (List Int)} (h : Rows K H vs t) {i : Nat} {v : V} (e : vs[i]? = some v) : ∃ ns, t[i]? = some ns ∧ IT K H v ns := by
  have h1 := (List.getElem?_eq_some_iff.mp e).1
  have h2 : i < t.length := by rw [← h.1]; exact h1
  exact ⟨t[i], List.getElem?_eq_getElem h2, h.2 i v _ e (List.getElem?_eq_getElem h2)⟩
/-- paths as rows -/
abbrev iL (p : List Nat) : List Int := p.map fun i : Nat => (i : Int)
theorem lay_rows : ∀ t : List (List Int), PyData.canLayAll0 (t.map rowD) = true
  | [] => by simp [PyData.canLayAll0]
  | n :: ns => by simp [PyData.canLayAll0, PyData.canLay0, rowD, lay_ints n, lay_rows ns]
theorem split_last {α : Type} (l : List α) (h : l ≠ []) : ∃ r x, l = r ++ [x] := ⟨l.dropLast, l.getLast h, (List.dropLast_concat_getLast h).symm⟩
end Ml
namespace Ml
open PySem PySem.Spec PyProof.Rows L2
/-! ### enumerate in a comprehension -/
theorem lc_enumL {K : PySem.W.Frag} {a : Addr} {xs : List V} {g : TG} {tt : L2.TT} {te : TE} {vs : List Nat} {σ : L2.St} {H1 : Hp} {D : Addr} {Qd : Hp → Prop} (Pv : Nat → Hp → Prop) (h0 : Pv 0 (upd H1 D (.lst [])))
    (hq : ∀ i H, i ≤ xs.length → Pv i H → SqL K H a xs)
    (hs : ∀ i x T H, xs[i]? = some x → Pv i H → H T = none → g (.ref T) (wipe σ vs) (upd H T (.tup [.int (i : Nat), x])) fun σ2 H2 => wipe σ2 vs = wipe σ vs ∧ tt σ2 H2 fun b H3 =>
      if b = true then te σ2 H3 fun y H4 => ∃ acc, H4 D = some (.lst acc) ∧ acc.length < sizeLine ∧ Pv (i + 1) (upd H4 D (.lst (acc ++ [y]))) else Pv (i + 1) H3) (hd : ∀ H, Pv xs.length H → Qd H) :
    ∃ W : Nat → Nat → Hp → Prop, (∃ m, W 0 m (upd H1 D (.lst []))) ∧ ∀ i m H, W i m H →
      ((Ite K a).stop i H ∧ Qd H) ∨ ((Ite K a).go i H ∧ ∃ Nx : Hp → Prop, (∀ H', Nx H' → ∃ m', m' < m ∧ W (i + 1) m' H') ∧ ∀ x H', (Ite K a).yld i H x H' → g x (wipe σ vs) H' fun σ2 H2 => wipe σ2 vs = wipe σ vs ∧ tt σ2 H2 fun b H3 =>
        if b = true then te σ2 H3 fun y H4 => ∃ acc, H4 D = some (.lst acc) ∧ acc.length < sizeLine ∧ Nx (upd H4 D (.lst (acc ++ [y]))) else Nx H3) := by
  refine ⟨fun i m H => m = xs.length - i ∧ i ≤ xs.length ∧ Pv i H, ⟨xs.length, by simp, Nat.zero_le _, h0⟩, ?_⟩
  rintro i m H ⟨rfl, hi, p⟩
  have q1 := hq i H hi p
  by_cases hlt : i < xs.length
  · refine .inr ⟨⟨xs, _, q1, List.getElem?_eq_getElem hlt⟩, Pv (i + 1), fun H' p' => ⟨xs.length - (i + 1), by omega, rfl, hlt, p'⟩, fun v H' y => ?_⟩
    obtain ⟨T, x, rfl, hT, rfl, f1⟩ := y
    exact hs i x T H (f1 xs q1) p hT
  · have e : i = xs.length := by omega
    subst e
    exact .inl ⟨⟨xs, q1, Nat.le_refl _⟩, hd H p⟩
/-! ### ascending lists -/
/-! ### divisions -/
def rcL (t : List (List Int)) (i : Nat) (h : Int) : List Nat := (List.range t.length).filter fun k => decide (jn t i k < h)
theorem mem_rcL {t : List (List Int)} {i k : Nat} {h : Int} : k ∈ rcL t i h ↔ k < t.length ∧ jn t i k < h := by
  unfold rcL
  rw [List.mem_filter, List.mem_range, decide_eq_true_iff]
/-- a search by lower steps -/
structure Srch (t : List (List Int)) (i : Nat) (h : Int) (L : List Nat) (m : Nat) : Prop where
  nod : L.Nodup
  ini : i ∈ L
  ok : ∀ x ∈ L, x < t.length ∧ Wk (lev t) t.length (h - 1) i x
  cl : ∀ (q x : Nat), q < m → L[q]? = some x → ∀ k, k < t.length → lev t x k < h → k ∈ L
theorem Srch.start {t : List (List Int)} {i : Nat} {h : Int} (hi : i < t.length) : Srch t i h [i] 0 :=
  ⟨by simp, by simp, fun x hx => by rw [List.mem_singleton.mp hx]; exact ⟨hi, .refl⟩, fun q x hq => absurd hq (Nat.not_lt_zero _)⟩
def nearL2 (t : List (List Int)) (x : Nat) (h : Int) : List Nat := (List.range t.length).filter fun k => decide (lev t x k < h)
def fresh (t : List (List Int)) (x : Nat) (h : Int) (L : List Nat) : List Nat := (nearL2 t x h).filter fun k => decide (k ∉ L)
theorem mem_fresh {t : List (List Int)} {x : Nat} {h : Int} {L : List Nat} {k : Nat} : k ∈ fresh t x h L ↔ k < t.length ∧ lev t x k < h ∧ k ∉ L := by
  unfold fresh nearL2
  rw [List.mem_filter, List.mem_filter, List.mem_range, decide_eq_true_iff, decide_eq_true_iff]
  constructor
  · rintro ⟨⟨a, b⟩, c⟩; exact ⟨a, b, c⟩
  · rintro ⟨a, b, c⟩; exact ⟨⟨a, b⟩, c⟩
theorem Srch.step {t : List (List Int)} {i : Nat} {h : Int} {L : List Nat} {m x : Nat} (S : Srch t i h L m) (hx : L[m]? = some x) : Srch t i h (L ++ fresh t x h L) (m + 1) := by
  have hm := (List.getElem?_eq_some_iff.mp hx).1
  have hxo := S.ok x (List.mem_of_getElem? hx)
  refine ⟨?_, List.mem_append_left _ S.ini, fun y hy => ?_, fun q y hq hy k hk hl => ?_⟩
  · rw [List.nodup_append]
    refine ⟨S.nod, (List.nodup_range.filter _).filter _, fun a ha b hb e => ?_⟩
    subst e
    exact (mem_fresh.mp hb).2.2 ha
  · rcases List.mem_append.mp hy with hy | hy
    · exact S.ok y hy
    · obtain ⟨a, b, c⟩ := mem_fresh.mp hy
      exact ⟨a, hxo.2.step hxo.1 a (by omega)⟩
  · by_cases hkL : k ∈ L
    · exact List.mem_append_left _ hkL
    · by_cases e : q = m
      · subst e
        rw [List.getElem?_append_left hm, hx] at hy
        cases Option.some.inj hy
        exact List.mem_append_right _ (mem_fresh.mpr ⟨hk, hl, hkL⟩)
      · rw [List.getElem?_append_left (by omega)] at hy
        exact absurd (S.cl q y (by omega) hy k hk hl) hkL
theorem Srch.done {t : List (List Int)} (hW : WT t) {i : Nat} {h : Int} {L : List Nat} (h1 : 1 ≤ h) (S : Srch t i h L L.length) (k : Nat) : k ∈ L ↔ k ∈ rcL t i h := by
  have hi := (S.ok i S.ini).1
  rw [mem_rcL]
  constructor
  · intro hk
    obtain ⟨a, b⟩ := S.ok k hk
    have := walk_jn hW hi (by omega) b
    exact ⟨a, by omega⟩
  · rintro ⟨a, b⟩
    have w := (jn_walk hW hi a).mono (show jn t i k ≤ h - 1 by omega)
    have key : ∀ {k : Nat}, Wk (lev t) t.length (h - 1) i k → k ∈ L := fun w => by
      induction w with
      | refl => exact S.ini
      | @step j k _ hj hk hl ih =>
        obtain ⟨q, hq, e⟩ := List.getElem_of_mem ih
        exact S.cl q j hq (by rw [List.getElem?_eq_getElem hq, e]) k hk (by omega)
    exact key w
theorem Srch.len {t : List (List Int)} {i : Nat} {h : Int} {L : List Nat} {m : Nat} (S : Srch t i h L m) : L.length ≤ t.length := nodup_len _ L S.nod fun x hx => (S.ok x hx).1
/-! ### widths -/
theorem cross {f : Nat → Nat → Int} {n : Nat} {h : Int} {i j : Nat} {S : Nat → Prop} (w : Wk f n h i j) (hi : S i) (hj : ¬ S j) : ∃ a b, a < n ∧ b < n ∧ S a ∧ ¬ S b ∧ f a b ≤ h := by
  induction w with
  | refl => exact absurd hi hj
  | @step j k _ a b c ih =>
    by_cases e : S j
    · exact ⟨j, k, a, b, e, hj, c⟩
    · exact ih e
end Ml
namespace Ml
open PySem PySem.Spec PyProof.Rows L2
section
variable {X : Cx}
/-- t + u: some tuple of both -/
def rCatW (K : PySem.W.Frag) : R2 := fun x y H Q => ∃ a b xs ys, x = .ref a ∧ y = .ref b ∧ SqT K H a xs ∧ SqT K H b ys ∧ xs.length + ys.length ≤ sizeLine ∧ ∀ p H', Sm H H' → SqT K H' p (xs ++ ys) → Q (.ref p) H'
theorem op_catW : OpR X (binaryOp .Add) (rCatW X.K) := by
  intro pins s σ H x y v u Q I rx ry h
  obtain ⟨a, b, xs, ys, e1, e2, ha, hb, hz, q⟩ := h
  refine op_catA pins s σ H x y v u Q I rx ry ⟨a, b, xs, ys, e1, e2, ha, hb, hz, fun e => ?_, fun _ e => ?_, fun _ _ p hp => ?_⟩
  · rw [e, List.nil_append] at q
    exact q b H (Sm.refl H) hb
  · rw [e, List.append_nil] at q
    exact q a H (Sm.refl H) ha
  · exact q p _ (Sm.new hp) (SqT.of upd_same)
/-- t[lo:hi]: some tuple of these -/
def rSlW (K : PySem.W.Frag) : V → Option Int → Option Int → Hp → VK → Prop := fun x lo hi H Q => ∃ a xs, x = .ref a ∧ SqT K H a xs ∧ ∀ p H', Sm H H' → SqT K H' p (cutV xs lo hi) → Q (.ref p) H'
theorem sl_tupW : SlR X (rSlW X.K) := by
  intro pins s σ H x v vl vu lo hi sl Q I rx hs pl pu h
  obtain ⟨a, xs, e1, ha, q⟩ := h
  refine sl_tupA pins s σ H x v vl vu lo hi sl Q I rx hs pl pu ⟨a, xs, e1, ha, fun e => ?_, fun _ p hp => ?_⟩
  · refine q a H (Sm.refl H) ?_
    have e3 : cutV xs lo hi = xs := by
      unfold cutV
      rw [e.1, e.2, List.drop_zero, Nat.sub_zero, List.take_length]
    rw [e3]
    exact ha
  · exact q p _ (Sm.new hp) (SqT.of upd_same)
end
theorem cut_to (xs : List V) (k : Nat) : cutV xs none (some (k : Int)) = xs.take k := by
  unfold cutV
  rw [HT.sIx_none, HT.sIx_nat, List.drop_zero, Nat.sub_zero]
  by_cases h : k ≤ xs.length
  · rw [Nat.min_eq_left h]
  · rw [Nat.min_eq_right (by omega), List.take_length, List.take_of_length_le (by omega)]
theorem cut_from (xs : List V) (k : Nat) : cutV xs (some (k : Int)) none = xs.drop k := by
  unfold cutV
  rw [HT.sIx_none, HT.sIx_nat]
  by_cases h : k ≤ xs.length
  · rw [Nat.min_eq_left h]
    exact List.take_of_length_le (by rw [List.length_drop]; omega)
  · rw [Nat.min_eq_right (by omega), List.drop_length, List.drop_of_length_le (by omega), List.take_nil]
theorem set_parts {α : Type} (xs : List α) (i : Nat) (v : α) (h : i < xs.length) : xs.take i ++ [v] ++ xs.drop (i + 1) = xs.set i v := by
  rw [List.set_eq_take_append_cons_drop, if_pos h, List.append_assoc]
  rfl
theorem Rows.set {K : PySem.W.Frag} {H : Hp} {vs : List V} {t : List (List Int)} {i : Nat} {v : V} {ns : List Int} (h : Rows K H vs t) (q : IT K H v ns) : Rows K H (vs.set i v) (t.set i ns) := by
  refine ⟨by rw [List.length_set, List.length_set]; exact h.1, fun j u ms a b => ?_⟩
  by_cases e : i = j
  · subst e
    rw [List.getElem?_set_self'] at a b
    cases e1 : vs[i]? with
    | none => rw [e1] at a; cases a
    | some z =>
      cases e2 : t[i]? with
      | none => rw [e2] at b; cases b
      | some y =>
        rw [e1] at a
        rw [e2] at b
        cases Option.some.inj a
        cases Option.some.inj b
        exact q
  · rw [List.getElem?_set_ne e] at a b
    exact h.2 j u ms a b
theorem WT.set {t : List (List Int)} {i : Nat} {ns : List Int} (h : WT t) (h1 : ns.length = i) (h2 : ∀ x ∈ ns, LvOk x) : WT (t.set i ns) := by
  intro j ms q
  by_cases e : i = j
  · subst e
    rw [List.getElem?_set_self'] at q
    cases e1 : t[i]? with
    | none => rw [e1] at q; cases q
    | some z =>
      rw [e1] at q
      cases Option.some.inj q
      exact ⟨h1, h2⟩
  · rw [List.getElem?_set_ne e] at q
    exact h j ms q
end Ml
namespace Ml
open PySem PySem.Spec PyProof.Rows L2
/-! ### one level replaced -/
def wL (t : List (List Int)) (a b : Nat) (x : Int) : List (List Int) := t.set (max a b) ((t.getD (max a b) []).set (min a b) x)
theorem fw_congr {f g : Nat → Nat → Int} {n : Nat} (h : ∀ i j, i < n → j < n → f i j = g i j) : ∀ (k i j : Nat), k ≤ n → i < n → j < n → fw f k i j = fw g k i j
  | 0, i, j, _, hi, hj => h i j hi hj
  | k + 1, i, j, hk, hi, hj => by
    show min (fw f k i j) (max (fw f k i k) (fw f k k j)) = min (fw g k i j) (max (fw g k i k) (fw g k k j))
    rw [fw_congr h k i j (by omega) hi hj, fw_congr h k i k (by omega) hi (by omega), fw_congr h k k j (by omega) (by omega) hj]
/-- the detour -/
def dt (t : List (List Int)) (a b : Nat) : Int := jn (wL t a b 1000000000000) a b
section
variable {t : List (List Int)} (hW : WT t) {a b : Nat} (ha : a < t.length) (hb : b < t.length) (hab : a ≠ b)
include hW ha hb hab
theorem jn_mono {u : List (List Int)} (hu : WT u) (hl : u.length = t.length) (h : ∀ i j, i < t.length → j < t.length → lev t i j ≤ lev u i j) : jn t a b ≤ jn u a b := by
  have w := jn_walk hu (i := a) (j := b) (by omega) (by omega)
  refine walk_jn hW ha (jn_nn hu (by omega) (by omega)) ?_
  have key : ∀ {k : Nat}, Wk (lev u) u.length (jn u a b) a k → Wk (lev t) t.length (jn u a b) a k := fun w => by
    induction w with
    | refl => exact .refl
    | @step j k _ hj hk hs ih => exact ih.step (by omega) (by omega) (Int.le_trans (h j k (by omega) (by omega)) hs)
  exact key w
end
theorem sqr_set (f : Nat → Nat → Int) {n a b : Nat} (ha : a < n) (hb : b < n) (v : Int) : (sqr f n).set a (((List.range n).map (f a)).set b v) = sqr (fun i j => if i = a ∧ j = b then v else f i j) n := by
  refine List.ext_getElem? fun i => ?_
  unfold sqr
  by_cases hi : i < n
  · rw [List.getElem?_map (l := List.range n) (f := fun i => (List.range n).map fun j => if i = a ∧ j = b then v else f i j), List.getElem?_range hi]
    by_cases e : i = a
    · subst e
      rw [List.getElem?_set_self (by rw [List.length_map, List.length_range]; exact hi)]
      show some _ = some _
      congr 1
      refine List.ext_getElem? fun j => ?_
      by_cases hj : j < n
      · rw [List.getElem?_map (f := fun j => if i = i ∧ j = b then v else f i j), List.getElem?_range hj]
        by_cases e2 : j = b
        · subst e2
          rw [List.getElem?_set_self (by rw [List.length_map, List.length_range]; exact hj)]
          simp
        · rw [List.getElem?_set_ne (fun z => e2 z.symm), List.getElem?_map, List.getElem?_range hj]
          simp [e2]
      · rw [List.getElem?_eq_none (by rw [List.length_set, List.length_map, List.length_range]; omega), List.getElem?_eq_none (by rw [List.length_map, List.length_range]; omega)]
    · rw [List.getElem?_set_ne (fun z => e z.symm), List.getElem?_map, List.getElem?_range hi]
      show some _ = some _
      congr 1
      refine List.map_congr_left fun j hj => ?_
      simp [e]
  · rw [List.getElem?_eq_none (by rw [List.length_set, List.length_map, List.length_range]; omega), List.getElem?_eq_none (by rw [List.length_map, List.length_range]; omega)]
end Ml
namespace Ml
open PySem PySem.Spec PyProof.Rows L2
/-! ### what is linked by pairs, spanning trees, least ones -/
inductive Pw (R : Nat → Nat → Prop) (i : Nat) : Nat → Prop
  | refl : Pw R i i
  | step {j k : Nat} : Pw R i j → R j k → Pw R i k
theorem Pw.trans {R : Nat → Nat → Prop} {i j k : Nat} (w : Pw R i j) (v : Pw R j k) : Pw R i k := by
  induction v with
  | refl => exact w
  | step _ r ih => exact ih.step r
theorem Pw.mono {R S : Nat → Nat → Prop} {i j : Nat} (w : Pw R i j) (h : ∀ a b, R a b → S a b) : Pw S i j := by
  induction w with
  | refl => exact .refl
  | step _ r ih => exact ih.step (h _ _ r)
theorem Pw.symm {R : Nat → Nat → Prop} (sy : ∀ a b, R a b → R b a) {i j : Nat} (w : Pw R i j) : Pw R j i := by
  induction w with
  | refl => exact .refl
  | step _ r ih => exact (Pw.refl.step (sy _ _ r)).trans ih
/-- a walk that leaves a set crosses its edge -/
theorem Pw.cross {R : Nat → Nat → Prop} {S : Nat → Prop} {i j : Nat} (w : Pw R i j) (hi : S i) (hj : ¬ S j) : ∃ x y, S x ∧ ¬ S y ∧ R x y ∧ Pw R i x := by
  induction w with
  | refl => exact absurd hi hj
  | @step a b w r ih =>
    by_cases ha : S a
    · exact ⟨a, b, ha, hj, r, w⟩
    · exact ih ha
def Ed (E : List (Nat × Nat)) (a b : Nat) : Prop := (a, b) ∈ E ∨ (b, a) ∈ E
def Lk (E : List (Nat × Nat)) : Nat → Nat → Prop := Pw (Ed E)
theorem Ed.symm {E : List (Nat × Nat)} (a b : Nat) (h : Ed E a b) : Ed E b a := Or.symm h
theorem Lk.symm {E : List (Nat × Nat)} {i j : Nat} (h : Lk E i j) : Lk E j i := Pw.symm Ed.symm h
theorem Lk.trans {E : List (Nat × Nat)} {i j k : Nat} (h : Lk E i j) (g : Lk E j k) : Lk E i k := Pw.trans h g
theorem Lk.mono {E E' : List (Nat × Nat)} {i j : Nat} (h : Lk E i j) (s : ∀ e ∈ E, e ∈ E') : Lk E' i j := Pw.mono h fun a b r => r.imp (s _) (s _)
theorem Lk.edge {E : List (Nat × Nat)} {i j : Nat} (h : (i, j) ∈ E) : Lk E i j := Pw.refl.step (.inl h)
theorem Lk.nil {i j : Nat} (h : Lk [] i j) : i = j := by
  cases h with
  | refl => rfl
  | step _ r => rcases r with r | r <;> cases r
/-- one more pair -/
theorem lk_snoc {E : List (Nat × Nat)} {a b i j : Nat} : Lk (E ++ [(a, b)]) i j ↔ Lk E i j ∨ (Lk E i a ∧ Lk E b j) ∨ (Lk E i b ∧ Lk E a j) := by
  constructor
  · intro h
    induction h with
    | refl => exact .inl .refl
    | @step x y _ r ih =>
      have one : Ed E x y ∨ (x = a ∧ y = b) ∨ (x = b ∧ y = a) := by
        rcases r with r | r
        · rcases List.mem_append.mp r with r | r
          · exact .inl (.inl r)
          · have := List.mem_singleton.mp r
            exact .inr (.inl ⟨congrArg Prod.fst this, congrArg Prod.snd this⟩)
        · rcases List.mem_append.mp r with r | r
          · exact .inl (.inr r)
          · have := List.mem_singleton.mp r
            exact .inr (.inr ⟨congrArg Prod.snd this, congrArg Prod.fst this⟩)
      rcases one with one | ⟨rfl, rfl⟩ | ⟨rfl, rfl⟩
      · rcases ih with h | ⟨h1, h2⟩ | ⟨h1, h2⟩
        · exact .inl (h.step one)
        · exact .inr (.inl ⟨h1, h2.step one⟩)
        · exact .inr (.inr ⟨h1, h2.step one⟩)
      · rcases ih with h | ⟨h1, h2⟩ | ⟨h1, h2⟩
        · exact .inr (.inl ⟨h, .refl⟩)
        · exact .inr (.inl ⟨h1, .refl⟩)
        · exact .inl h1
      · rcases ih with h | ⟨h1, h2⟩ | ⟨h1, h2⟩
        · exact .inr (.inr ⟨h, .refl⟩)
        · exact .inl h1
        · exact .inr (.inr ⟨h1, .refl⟩)
  · have up : ∀ {i j}, Lk E i j → Lk (E ++ [(a, b)]) i j := fun h => h.mono fun e he => List.mem_append.mpr (.inl he)
    have ab : Lk (E ++ [(a, b)]) a b := Lk.edge (List.mem_append.mpr (.inr (List.mem_singleton.mpr rfl)))
    rintro (h | ⟨h1, h2⟩ | ⟨h1, h2⟩)
    · exact up h
    · exact (up h1).trans (ab.trans (up h2))
    · exact (up h1).trans (ab.symm.trans (up h2))
/-- items none of which are linked: one less for each pair -/
theorem reps (n : Nat) : ∀ (E : List (Nat × Nat)), ∃ R : List Nat, R.Nodup ∧ (∀ r ∈ R, r < n) ∧ n ≤ R.length + E.length ∧ ∀ r ∈ R, ∀ r' ∈ R, r ≠ r' → ¬ Lk E r r' := by
  intro E
  induction h : E.length generalizing E with
  | zero =>
    have : E = [] := List.eq_nil_of_length_eq_zero h
    subst this
    exact ⟨List.range n, List.nodup_range, fun r hr => List.mem_range.mp hr, by rw [List.length_range]; omega, fun r _ r' _ ne l => ne l.nil⟩
  | succ m ih =>
    have ne : E ≠ [] := fun z => by rw [z] at h; cases h
    obtain ⟨E', ⟨a, b⟩, rfl⟩ : ∃ E' e, E = E' ++ [e] := ⟨E.dropLast, E.getLast ne, (List.dropLast_concat_getLast ne).symm⟩
    rw [List.length_append] at h
    have hm : E'.length = m := by
      have : E'.length + 1 = m + 1 := h
      omega
    obtain ⟨R, nd, lt, len, ap⟩ := ih E' hm
    by_cases hb : ∃ r ∈ R, Lk E' r b
    · obtain ⟨r0, hr0, hl0⟩ := hb
      refine ⟨R.erase r0, nd.erase r0, fun r hr => lt r (List.mem_of_mem_erase hr), ?_, fun r hr r' hr' ne' l => ?_⟩
      · rw [List.length_erase_of_mem hr0]
        have : 0 < R.length := List.length_pos_of_mem hr0
        omega
      · have mr := List.mem_of_mem_erase hr
        have mr' := List.mem_of_mem_erase hr'
        have nb : ∀ {x}, x ∈ R.erase r0 → ¬ Lk E' x b := fun {x} hx lx => by
          have mx := List.mem_of_mem_erase hx
          by_cases e : x = r0
          · subst e
            exact (nd.mem_erase_iff.mp hx).1 rfl
          · exact ap x mx r0 hr0 e (lx.trans hl0.symm)
        rcases lk_snoc.mp l with l | ⟨l1, l2⟩ | ⟨l1, l2⟩
        · exact ap r mr r' mr' ne' l
        · exact nb hr' l2.symm
        · exact nb hr l1
    · refine ⟨R, nd, lt, by omega, fun r hr r' hr' ne' l => ?_⟩
      rcases lk_snoc.mp l with l | ⟨l1, l2⟩ | ⟨l1, l2⟩
      · exact ap r hr r' hr' ne' l
      · exact hb ⟨r', hr', l2.symm⟩
      · exact hb ⟨r, hr, l1⟩
def Conn (n : Nat) (E : List (Nat × Nat)) : Prop := ∀ i j, i < n → j < n → Lk E i j
theorem conn_count {n : Nat} {E : List (Nat × Nat)} (h : Conn n E) : n ≤ E.length + 1 := by
  obtain ⟨R, nd, lt, len, ap⟩ := reps n E
  refine Classical.byContradiction fun z => ?_
  have h2 : 2 ≤ R.length := by omega
  have e01 : R[0] ≠ R[1] := fun e => by
    have := (List.getElem_inj nd).mp e
    cases this
  exact ap R[0] (List.getElem_mem _) R[1] (List.getElem_mem _) e01 (h _ _ (lt _ (List.getElem_mem _)) (lt _ (List.getElem_mem _)))
/-- a spanning tree: pairs in order, one less than items, that link all -/
structure Span (n : Nat) (T : List (Nat × Nat)) : Prop where
  asc : T.Pairwise Plt
  sub : ∀ e ∈ T, e ∈ ppre n n
  len : T.length + 1 = n
  con : Conn n T
theorem asc_nd {T : List (Nat × Nat)} (h : T.Pairwise Plt) : T.Nodup := h.imp fun {a b} h e => by
  subst e
  unfold Plt at h
  omega
theorem Span.nd {n : Nat} {T : List (Nat × Nat)} (h : Span n T) : T.Nodup := asc_nd h.asc
theorem lk_erase {T : List (Nat × Nat)} {a b i j : Nat} (he : (a, b) ∈ T) : Lk T i j ↔ Lk (T.erase (a, b)) i j ∨ (Lk (T.erase (a, b)) i a ∧ Lk (T.erase (a, b)) b j) ∨ (Lk (T.erase (a, b)) i b ∧ Lk (T.erase (a, b)) a j) := by
  rw [← lk_snoc]
  have p : T.Perm (T.erase (a, b) ++ [(a, b)]) := (List.perm_cons_erase he).trans (List.perm_append_singleton _ _).symm
  exact ⟨fun h => h.mono fun e he => p.mem_iff.mp he, fun h => h.mono fun e he => p.mem_iff.mpr he⟩
/-- without one of its pairs a tree falls apart -/
theorem Span.cut {n : Nat} {T : List (Nat × Nat)} (h : Span n T) {a b : Nat} (he : (a, b) ∈ T) : ¬ Lk (T.erase (a, b)) a b := fun l => by
  have c : Conn n (T.erase (a, b)) := fun i j hi hj => by
    rcases (lk_erase he).mp (h.con i j hi hj) with z | ⟨z1, z2⟩ | ⟨z1, z2⟩
    · exact z
    · exact z1.trans (l.trans z2)
    · exact z1.trans (l.symm.trans z2)
  have := conn_count c
  rw [List.length_erase_of_mem he] at this
  have := h.len
  have : 0 < T.length := List.length_pos_of_mem he
  omega
/-- one pair for another -/
theorem Span.swap {n : Nat} {T : List (Nat × Nat)} (h : Span n T) {a b x y : Nat} (he : (a, b) ∈ T) (hx : Lk (T.erase (a, b)) a x) (hy : Lk (T.erase (a, b)) b y) : Conn n (T.erase (a, b) ++ [(x, y)]) := fun i j hi hj => by
  have ab : Lk (T.erase (a, b) ++ [(x, y)]) a b := lk_snoc.mpr (.inr (.inl ⟨hx, hy.symm⟩))
  have up : ∀ {i j}, Lk (T.erase (a, b)) i j → Lk (T.erase (a, b) ++ [(x, y)]) i j := fun h => lk_snoc.mpr (.inl h)
  rcases (lk_erase he).mp (h.con i j hi hj) with z | ⟨z1, z2⟩ | ⟨z1, z2⟩
  · exact up z
  · exact (up z1).trans (ab.trans (up z2))
  · exact (up z1).trans (ab.symm.trans (up z2))
end Ml
namespace Ml
open PySem PySem.Spec PyProof.Rows L2
/-! ### least spanning trees -/
theorem ppre_nd (n : Nat) : (ppre n n).Nodup := asc_nd (ppre_sorted n n)
def wsum (t : List (List Int)) (T : List (Nat × Nat)) : Int := (T.map fun e => lev t e.1 e.2).sum
theorem wsum_perm {t : List (List Int)} {T S : List (Nat × Nat)} (h : T.Perm S) : wsum t T = wsum t S := sum_perm (h.map _)
theorem wsum_app (t : List (List Int)) (T S : List (Nat × Nat)) : wsum t (T ++ S) = wsum t T + wsum t S := by
  unfold wsum
  rw [List.map_append, List.sum_append]
theorem wsum_one (t : List (List Int)) (e : Nat × Nat) : wsum t [e] = lev t e.1 e.2 := by
  unfold wsum
  simp
theorem wsum_swap {t : List (List Int)} {T : List (Nat × Nat)} {f g : Nat × Nat} (hf : f ∈ T) : wsum t (T.erase f ++ [g]) = wsum t T - lev t f.1 f.2 + lev t g.1 g.2 := by
  have h : T.Perm (T.erase f ++ [f]) := (List.perm_cons_erase hf).trans (List.perm_append_singleton _ _).symm
  have e := wsum_perm (t := t) h
  rw [wsum_app, wsum_one] at e ⊢
  omega
/-- pairs in any order, put in order -/
theorem span_of {n : Nat} {T : List (Nat × Nat)} (nd : T.Nodup) (mem : ∀ e ∈ T, e ∈ ppre n n) (len : T.length + 1 = n) (con : Conn n T) : ∃ S, Span n S ∧ S.Perm T := by
  have p : ((ppre n n).filter fun e => decide (e ∈ T)).Perm T := by
    refine (List.perm_ext_iff_of_nodup ((ppre_nd n).filter _) nd).mpr fun e => ?_
    rw [List.mem_filter, decide_eq_true_eq]
    exact ⟨fun h => h.2, fun h => ⟨mem e h, h⟩⟩
  exact ⟨_, ⟨(ppre_sorted n n).filter _, fun e he => (List.mem_filter.mp he).1, by rw [p.length_eq]; exact len, fun i j hi hj => (con i j hi hj).mono fun e he => p.mem_iff.mpr he⟩, p⟩
theorem Span.mem {n : Nat} {T : List (Nat × Nat)} (h : Span n T) {a b : Nat} (he : (a, b) ∈ T) : a < b ∧ b < n := by
  have := mem_ppre.mp (h.sub _ he)
  omega
/-- a pair out, another one in -/
theorem Span.exch {n : Nat} {T : List (Nat × Nat)} (h : Span n T) {f : Nat × Nat} {x y : Nat} (hf : f ∈ T) (hxy : x < y) (hy : y < n) (hn : (x, y) ∉ T.erase f) (c : Conn n (T.erase f ++ [(x, y)])) : ∃ S, Span n S ∧ S.Perm (T.erase f ++ [(x, y)]) := by
  have nd := h.nd
  refine span_of ?_ (fun e he => ?_) ?_ c
  · rw [List.nodup_append]
    refine ⟨nd.erase f, by simp, fun e he e' he' z => ?_⟩
    rw [List.mem_singleton.mp he'] at z
    exact hn (z ▸ he)
  · rcases List.mem_append.mp he with he | he
    · exact h.sub _ (List.mem_of_mem_erase he)
    · rw [List.mem_singleton.mp he]
      exact mem_ppre.mpr ⟨by omega, hxy, hy⟩
  · rw [List.length_append, List.length_erase_of_mem hf]
    have := h.len
    have : 0 < T.length := List.length_pos_of_mem hf
    show T.length - 1 + 1 + 1 = n
    omega
theorem Span.swap' {n : Nat} {T : List (Nat × Nat)} (h : Span n T) {a b x y : Nat} (he : (a, b) ∈ T) (hx : Lk (T.erase (a, b)) a y) (hy : Lk (T.erase (a, b)) b x) : Conn n (T.erase (a, b) ++ [(x, y)]) := fun i j hi hj => by
  have ab : Lk (T.erase (a, b) ++ [(x, y)]) a b := lk_snoc.mpr (.inr (.inr ⟨hx, hy.symm⟩))
  have up : ∀ {i j}, Lk (T.erase (a, b)) i j → Lk (T.erase (a, b) ++ [(x, y)]) i j := fun h => lk_snoc.mpr (.inl h)
  rcases (lk_erase he).mp (h.con i j hi hj) with z | ⟨z1, z2⟩ | ⟨z1, z2⟩
  · exact up z
  · exact (up z1).trans (ab.trans (up z2))
  · exact (up z1).trans (ab.symm.trans (up z2))
/-- both sides of a pair -/
theorem Span.side {n : Nat} {T : List (Nat × Nat)} (h : Span n T) {a b : Nat} (he : (a, b) ∈ T) {y : Nat} (hy : y < n) (no : ¬ Lk (T.erase (a, b)) a y) : Lk (T.erase (a, b)) b y := by
  have := h.mem he
  rcases (lk_erase he).mp (h.con a y (by omega) hy) with z | ⟨_, z⟩ | ⟨z, _⟩
  · exact absurd z no
  · exact z
  · exact absurd z (h.cut he)
/-- a walk from one side to the other gives a pair that can take the place -/
theorem Span.over {n : Nat} {T : List (Nat × Nat)} (h : Span n T) {a b : Nat} (he : (a, b) ∈ T) {R : Nat → Nat → Prop} (hR : ∀ x y, R x y → x < n ∧ y < n) (w : Pw R a b) :
    ∃ x y, R x y ∧ ∃ lo hi, lo < hi ∧ hi < n ∧ ((lo = x ∧ hi = y) ∨ (lo = y ∧ hi = x)) ∧ (lo, hi) ∉ T.erase (a, b) ∧ ∃ S, Span n S ∧ S.Perm (T.erase (a, b) ++ [(lo, hi)]) := by
  obtain ⟨x, y, hx, hy, r, _⟩ := w.cross (S := fun v => Lk (T.erase (a, b)) a v) .refl (h.cut he)
  obtain ⟨hxn, hyn⟩ := hR x y r
  have hby := h.side he hyn hy
  have no : ∀ lo hi, (lo, hi) ∈ T.erase (a, b) → ((lo = x ∧ hi = y) ∨ (lo = y ∧ hi = x)) → False := fun lo hi m o => by
    have l := Lk.edge m
    rcases o with ⟨rfl, rfl⟩ | ⟨rfl, rfl⟩
    · exact hy (hx.trans l)
    · exact hy (hx.trans l.symm)
  have ne : x ≠ y := fun e => hy (e ▸ hx)
  refine ⟨x, y, r, ?_⟩
  rcases Nat.lt_or_gt_of_ne ne with z | z
  · exact ⟨x, y, z, hyn, .inl ⟨rfl, rfl⟩, fun m => no _ _ m (.inl ⟨rfl, rfl⟩), h.exch he z hyn (fun m => no _ _ m (.inl ⟨rfl, rfl⟩)) (h.swap he hx hby)⟩
  · exact ⟨y, x, z, hxn, .inr ⟨rfl, rfl⟩, fun m => no _ _ m (.inr ⟨rfl, rfl⟩), h.exch he z hxn (fun m => no _ _ m (.inr ⟨rfl, rfl⟩)) (h.swap' he hx hby)⟩
/-- the pair that joins -/
theorem lk_last {a b : Nat} : ∀ (F E : List (Nat × Nat)), Lk (E ++ F) a b → ¬ Lk E a b → ∃ x y, (x, y) ∈ F ∧ ∃ F1 F2, F = F1 ++ (x, y) :: F2 ∧ ((Lk (E ++ F1) a x ∧ Lk (E ++ F1) y b) ∨ (Lk (E ++ F1) a y ∧ Lk (E ++ F1) x b))
  | [], E, h, no => absurd (by rw [List.append_nil] at h; exact h) no
  | (x, y) :: F, E, h, no => by
    by_cases hh : Lk (E ++ [(x, y)]) a b
    · refine ⟨x, y, List.mem_cons_self, [], F, rfl, ?_⟩
      rw [List.append_nil]
      rcases lk_snoc.mp hh with z | z | z
      · exact absurd z no
      · exact .inl z
      · exact .inr z
    · obtain ⟨x', y', hm, F1, F2, e, d⟩ := lk_last F (E ++ [(x, y)]) (by rw [List.append_assoc]; exact h) hh
      refine ⟨x', y', List.mem_cons_of_mem _ hm, (x, y) :: F1, F2, by rw [e]; rfl, ?_⟩
      rw [List.append_assoc] at d
      exact d
/-- a pair in, for one that is not low -/
theorem Span.bring {n : Nat} {T : List (Nat × Nat)} (h : Span n T) {a b : Nat} (hab : a < b) (hb : b < n) (he : (a, b) ∉ T) (low : Nat × Nat → Bool) (no : ¬ Lk (T.filter low) a b) : ∃ f ∈ T, low f = false ∧ ∃ S, Span n S ∧ S.Perm (T.erase f ++ [(a, b)]) := by
  have nd := h.nd
  have p : T.Perm (T.filter low ++ T.filter fun e => !low e) := (List.filter_append_perm low T).symm
  obtain ⟨x, y, hm, F1, F2, eF, d⟩ := lk_last (T.filter fun e => !low e) (T.filter low) ((h.con a b (by omega) hb).mono fun e he => p.mem_iff.mp he) no
  have hm' := List.mem_filter.mp hm
  have nd2 := p.nodup_iff.mp nd
  have sub : ∀ e ∈ T.filter low ++ F1, e ∈ T.erase (x, y) := fun e hE => by
    have hT : e ∈ T := by
      rcases List.mem_append.mp hE with z | z
      · exact (List.mem_filter.mp z).1
      · have : e ∈ T.filter fun e => !low e := by rw [eF]; exact List.mem_append.mpr (.inl z)
        exact (List.mem_filter.mp this).1
    refine (nd.mem_erase_iff).mpr ⟨fun z => ?_, hT⟩
    subst z
    rw [eF, ← List.append_assoc, List.nodup_append] at nd2
    exact nd2.2.2 _ hE _ List.mem_cons_self rfl
  have lowf : low (x, y) = false := by simpa using hm'.2
  refine ⟨(x, y), hm'.1, lowf, h.exch hm'.1 hab hb (fun z => he (List.mem_of_mem_erase z)) ?_⟩
  rcases d with ⟨d1, d2⟩ | ⟨d1, d2⟩
  · exact h.swap hm'.1 (d1.mono sub).symm (d2.mono sub)
  · exact h.swap' hm'.1 (d2.mono sub) (d1.mono sub).symm
structure Least (t : List (List Int)) (T : List (Nat × Nat)) : Prop where
  span : Span t.length T
  le : ∀ S, Span t.length S → wsum t T ≤ wsum t S
/-! which pairs a least tree can have -/
end Ml
namespace Ml
open PySem PySem.Spec PyProof.Rows L2
/-! ### the nested table below a table -/
theorem ultra_jn {u : List (List Int)} (hW : WT u) (h : Ultra u) {i j : Nat} (hi : i < u.length) (hj : j < u.length) : jn u i j = lev u i j := by
  refine Int.le_antisymm (jn_le hW i j) ?_
  have nn := jn_nn hW hi hj
  have key : ∀ {k : Nat}, Wk (lev u) u.length (jn u i j) i k → k < u.length → lev u i k ≤ jn u i j := fun w => by
    induction w with
    | refl => intro _; rw [lev_self]; exact nn
    | @step a b _ ha hb hs ih =>
      intro _
      have := h i a b hi ha hb
      have := ih ha
      omega
  exact key (jn_walk hW hi hj) hj
/-! ### tables made place by place -/
theorem tri_lev_sym {F : Nat → Nat → Int} {n : Nat} (hs : ∀ i j, i < n → j < n → F i j = F j i) (h0 : ∀ i, i < n → F i i = 0) {i j : Nat} (hi : i < n) (hj : j < n) : lev (tri F n) i j = F i j := by
  by_cases e : i = j
  · subst e
    rw [lev_self, h0 i hi]
  · rw [tri_lev F hi hj e]
    rcases Nat.lt_or_gt_of_ne e with z | z
    · rw [Nat.max_eq_right (by omega), Nat.min_eq_left (by omega)]
      exact hs j i hj hi
    · rw [Nat.max_eq_left (by omega), Nat.min_eq_right (by omega)]
theorem jn_mono' {t u : List (List Int)} (hW : WT t) (hu : WT u) (hl : u.length = t.length) (h : ∀ i j, i < t.length → j < t.length → lev t i j ≤ lev u i j) {i j : Nat} (hi : i < t.length) (hj : j < t.length) : jn t i j ≤ jn u i j := by
  by_cases e : i = j
  · subst e
    rw [jn_diag hW hi, jn_diag hu (by omega)]
    exact Int.le_refl _
  · exact jn_mono hW hi hj e hu hl h
/-! ### other names -/
abbrev oA (os : List Nat) (i : Nat) : Nat := os.getD i 0
structure Orr (os : List Nat) (n : Nat) : Prop where
  len : os.length = n
  lt : ∀ i, i < n → oA os i < n
  inj : ∀ i j, i < n → j < n → oA os i = oA os j → i = j
  sur : ∀ x, x < n → ∃ i, i < n ∧ oA os i = x
theorem Orr.of {os : List Nat} {n : Nat} (h : os.Perm (List.range n)) : Orr os n := by
  have hl := h.length_eq
  rw [List.length_range] at hl
  have nd : os.Nodup := h.nodup_iff.mpr List.nodup_range
  have at_ : ∀ i, (hi : i < n) → oA os i = os[i]'(by omega) := fun i hi => by
    unfold oA
    rw [List.getD_eq_getElem?_getD, List.getElem?_eq_getElem (by omega)]
    rfl
  refine ⟨hl, fun i hi => ?_, fun i j hi hj e => ?_, fun x hx => ?_⟩
  · rw [at_ i hi]
    exact List.mem_range.mp (h.mem_iff.mp (List.getElem_mem _))
  · rw [at_ i hi, at_ j hj] at e
    have pw := List.pairwise_iff_getElem.mp nd
    rcases Nat.lt_trichotomy i j with z | z | z
    · exact absurd e (pw i j (by omega) (by omega) z)
    · exact z
    · exact absurd e.symm (pw j i (by omega) (by omega) z)
  · obtain ⟨i, hi, e⟩ := List.getElem_of_mem (h.mem_iff.mpr (List.mem_range.mpr hx))
    exact ⟨i, by omega, by rw [at_ i (by omega), e]⟩
/-! ### other levels in the same order -/
/-! ### planted tables -/
inductive EW (E : List (Nat × Nat)) (f : Nat → Nat → Int) (h : Int) (i : Nat) : Nat → Prop
  | refl : EW E f h i i
  | step {j k : Nat} : EW E f h i j → ((j, k) ∈ E ∨ (k, j) ∈ E) → f j k ≤ h → EW E f h i k
theorem EW.mono {E E' : List (Nat × Nat)} {f f' : Nat → Nat → Int} {h h' : Int} {i j : Nat} (w : EW E f h i j) (hE : ∀ e ∈ E, e ∈ E') (hf : ∀ a b, (a, b) ∈ E ∨ (b, a) ∈ E → f' a b = f a b) (hh : h ≤ h') : EW E' f' h' i j := by
  induction w with
  | refl => exact .refl
  | @step a b _ e hs ih =>
    refine ih.step (e.elim (fun z => .inl (hE _ z)) (fun z => .inr (hE _ z))) ?_
    rw [hf a b e]
    omega
structure Plant (t : List (List Int)) (E : List (Nat × Nat)) : Prop where
  wt : WT t
  ult : Ultra t
  ed : ∀ a b, (a, b) ∈ E → a < b ∧ b < t.length
  wk : ∀ i j, i < t.length → j < t.length → EW E (lev t) (lev t i j) i j
theorem Plant.one : Plant [[]] [] := by
  refine ⟨WT.nil.snoc rfl (fun x hx => by simp at hx), fun i j k hi hj hk => ?_, fun a b h => by simp at h, fun i j hi hj => ?_⟩
  · have h1 : i = 0 := by simp at hi; exact hi
    have h2 : j = 0 := by simp at hj; exact hj
    have h3 : k = 0 := by simp at hk; exact hk
    subst h1 h2 h3
    rw [lev_self]
    omega
  · have h1 : i = 0 := by simp at hi; exact hi
    have h2 : j = 0 := by simp at hj; exact hj
    subst h1 h2
    exact .refl
/-- levels that are kept along the edges and not lower elsewhere -/
theorem Plant.below {t u : List (List Int)} {E : List (Nat × Nat)} (P : Plant t E) (hu : WT u) (hl : u.length = t.length) (he : ∀ a b, (a, b) ∈ E → lev u a b = lev t a b) (hge : ∀ i j, i < t.length → j < t.length → lev t i j ≤ lev u i j) : jtab u = t := by
  have e : jtab u = tri (lev t) t.length := by
    show tri (jn u) u.length = _
    rw [hl]
    refine tri_congr fun i j hi hj => Int.le_antisymm ?_ ?_
    · refine walk_jn hu (by omega) (lev_nn P.wt hi (by omega)) ?_
      have key : ∀ {k : Nat}, EW E (lev t) (lev t i j) i k → Wk (lev u) u.length (lev t i j) i k := fun w => by
        induction w with
        | refl => exact .refl
        | @step a b _ e hs ih =>
          rcases e with e | e
          · have := P.ed a b e
            exact ih.step (by omega) (by omega) (by rw [he a b e]; exact hs)
          · have := P.ed b a e
            exact ih.step (by omega) (by omega) (by rw [lev_comm, he b a e, lev_comm]; exact hs)
      exact key (P.wk i j hi (by omega))
    · rw [← ultra_jn P.wt P.ult hi (show j < t.length by omega)]
      exact jn_mono' P.wt hu hl hge hi (by omega)
  rw [e, tri_lev_self P.wt]
end Ml
namespace Ml
open PySem PySem.Spec PyProof.Rows L2
/-! ### tables with levels of any size; two nested tables glued together -/
def WG (t : List (List Int)) : Prop := ∀ (i : Nat) (ns : List Int), t[i]? = some ns → ns.length = i ∧ ∀ x ∈ ns, 1 ≤ x
theorem WG.row {t : List (List Int)} (h : WG t) {i : Nat} (hi : i < t.length) : (t.getD i []).length = i ∧ ∀ x ∈ t.getD i [], 1 ≤ x := by
  have e : t[i]? = some (t.getD i []) := by rw [List.getD_eq_getElem?_getD, List.getElem?_eq_getElem hi]; rfl
  exact h i _ e
theorem WG.nn {t : List (List Int)} (h : WG t) : ∀ i j, i < t.length → j < t.length → 0 ≤ lev t i j := fun i j hi hj => by
  by_cases e : i = j
  · rw [e, lev_self]; exact Int.le_refl 0
  · unfold Ml.lev
    rw [if_neg e]
    have hm : max i j < t.length := by omega
    obtain ⟨h1, h2⟩ := h.row hm
    have hl : min i j < (t.getD (max i j) []).length := by omega
    rw [List.getD_eq_getElem?_getD, List.getElem?_eq_getElem hl]
    have := h2 _ (List.getElem_mem hl)
    show (0 : Int) ≤ (t.getD (max i j) [])[min i j]
    omega
end Ml
namespace Ml
open PySem PySem.Spec PyProof.Rows L2
/-! ### open tables: 0 stands for a level that is not known -/
theorem gd_lt {α : Type} {l : List α} {i : Nat} {d : α} (h : i < l.length) : l.getD i d = l[i] := by
  rw [List.getD_eq_getElem?_getD, List.getElem?_eq_getElem h]
  rfl
def OW (u : List (List Int)) : Prop := ∀ (i : Nat) ns, u[i]? = some ns → ns.length = i ∧ ∀ x ∈ ns, x = 0 ∨ LvOk x
def cl0 (x : Int) : Int := if x = 0 then 1000000000000 else x
def clT (u : List (List Int)) : List (List Int) := u.map fun r => r.map cl0
theorem OW.row {u : List (List Int)} (h : OW u) {i : Nat} (hi : i < u.length) : (u.getD i []).length = i ∧ ∀ x ∈ u.getD i [], x = 0 ∨ LvOk x := by
  have := h i (u.getD i []) (by rw [List.getD_eq_getElem?_getD, List.getElem?_eq_getElem hi]; rfl)
  exact this
theorem OW.lev {u : List (List Int)} (h : OW u) {i j : Nat} (hi : i < u.length) (hj : j < u.length) (hij : i ≠ j) : lev u i j = 0 ∨ LvOk (lev u i j) := by
  obtain ⟨a, b⟩ := h.row (show max i j < u.length by omega)
  unfold Ml.lev
  rw [if_neg hij]
  refine b _ ?_
  rw [gd_lt (show min i j < (u.getD (max i j) []).length by omega)]
  exact List.getElem_mem _
/-- how an edge between two items is closed without the pair itself -/
def aro (u : List (List Int)) (a b i j : Nat) : Int := min (max (jn (clT u) i a) (jn (clT u) b j)) (max (jn (clT u) i b) (jn (clT u) a j))
/-- the least level that a pair can have -/
def LL (u : List (List Int)) (a b : Nat) (m : Int) : Prop := 1 ≤ m ∧ (∀ i j, i < j → j < u.length → lev u i j ≠ 0 → aro u a b i j < lev u i j → lev u i j ≤ m) ∧ (m = 1 ∨ ∃ i j, i < j ∧ j < u.length ∧ lev u i j ≠ 0 ∧ aro u a b i j < lev u i j ∧ m = lev u i j)
theorem LL.uniq {u : List (List Int)} {a b : Nat} {m m' : Int} (h : LL u a b m) (g : LL u a b m') : m = m' := by
  have key : ∀ {m m' : Int}, LL u a b m → LL u a b m' → m ≤ m' := fun {m m'} h g => by
    rcases h.2.2 with e | ⟨i, j, h1, h2, h3, h4, e⟩
    · have := g.1; omega
    · rw [e]; exact g.2.1 i j h1 h2 h3 h4
  have := key h g
  have := key g h
  omega
/-! a level put in -/
end Ml
namespace Ml
open PySem PySem.Spec PyProof.Rows L2
/-! ### a dict that is locked meanwhile -/
theorem Sm.unlock {H H' : Hp} {d : Addr} {u o : HO} (hd : H d = some u) (s : Sm (L2.upd H d o) H') : Sm H (L2.upd H' d u) := fun b x e => by
  by_cases h : b = d
  · subst h
    rw [upd_same]
    rw [hd] at e
    exact e
  · rw [upd_ne h]
    refine s b x ?_
    rw [upd_ne h]
    exact e
def Off (d : Addr) (H H' : Hp) : Prop := ∀ b o, H b = some o → b ≠ d → H' b = some o
theorem Off.upd {d : Addr} {H : Hp} {o : HO} : Off d H (L2.upd H d o) := fun b x e n => by rw [upd_ne n]; exact e
theorem Off.trans {d : Addr} {H H1 H2 : Hp} (a : Off d H H1) (b : Off d H1 H2) : Off d H H2 := fun c o h n => b c o (a c o h n) n
theorem Off.sqT {K : PySem.W.Frag} {d a : Addr} {H H' : Hp} {kvs : List (Key × V)} {xs : List V} (e : Off d H H') (hd : H d = some (.dK kvs)) (h : SqT K H a xs) : SqT K H' a xs := by
  rcases h with (q | ⟨o, q⟩) | q
  · exact .inl (.inl (e _ _ q (ne_of q hd (by intro z; cases z))))
  · exact .inl (.inr ⟨o, e _ _ q (ne_of q hd (by intro z; cases z))⟩)
  · exact .inr q
/-! ### limits by their names -/
end Ml
namespace Ml
open PySem PySem.Spec PyProof.Rows L2
/-! ### sure pairs: by detours, by a wide level put in -/
/-! ### all rows of pairs in order, all trees -/
def gtB (p q : Nat × Nat) : Bool := decide (q.1 < p.1) || (decide (q.1 = p.1) && decide (q.2 < p.2))
theorem gtB_iff {p q : Nat × Nat} : gtB p q = true ↔ Plt q p := by
  unfold gtB Plt
  simp
def okB (row : List (Nat × Nat)) (p : Nat × Nat) : Bool := match row.getLast? with
  | none => true
  | some q => gtB p q
def ext (n : Nat) (row : List (Nat × Nat)) : List (List (Nat × Nat)) := ((ppre n n).filter (okB row)).map fun p => row ++ [p]
def allR (n : Nat) : Nat → List (List (Nat × Nat))
  | 0 => [[]]
  | k + 1 => (allR n k).flatMap (ext n)
theorem Plt.trans {p q r : Nat × Nat} (h : Plt p q) (g : Plt q r) : Plt p r := by
  unfold Plt at *
  omega
theorem asc_snoc {row : List (Nat × Nat)} {p : Nat × Nat} : (row ++ [p]).Pairwise Plt ↔ row.Pairwise Plt ∧ okB row p = true := by
  rw [List.pairwise_append]
  constructor
  · rintro ⟨h1, _, h3⟩
    refine ⟨h1, ?_⟩
    unfold okB
    cases e : row.getLast? with
    | none => rfl
    | some q => exact gtB_iff.mpr (h3 q (List.mem_of_getLast? e) p (List.mem_singleton.mpr rfl))
  · rintro ⟨h1, h2⟩
    refine ⟨h1, List.pairwise_singleton _ _, fun q hq r hr => ?_⟩
    rw [List.mem_singleton.mp hr]
    obtain ⟨L, z, rfl⟩ : ∃ L z, row = L ++ [z] := ⟨row.dropLast, row.getLast (fun e => by rw [e] at hq; cases hq), (List.dropLast_concat_getLast _).symm⟩
    unfold okB at h2
    rw [List.getLast?_concat] at h2
    have zp : Plt z p := gtB_iff.mp h2
    rw [List.pairwise_append] at h1
    rcases List.mem_append.mp hq with hq | hq
    · exact (h1.2.2 q hq z (List.mem_singleton.mpr rfl)).trans zp
    · rw [List.mem_singleton.mp hq]; exact zp
theorem mem_allR {n : Nat} : ∀ {k : Nat} {row : List (Nat × Nat)}, row ∈ allR n k ↔ row.length = k ∧ (∀ e ∈ row, e ∈ ppre n n) ∧ row.Pairwise Plt
  | 0, row => by
    unfold allR
    rw [List.mem_singleton]
    constructor
    · rintro rfl; exact ⟨rfl, fun e he => (by cases he), List.Pairwise.nil⟩
    · rintro ⟨h, _⟩; exact List.eq_nil_of_length_eq_zero h
  | k + 1, row => by
    unfold allR
    rw [List.mem_flatMap]
    constructor
    · rintro ⟨r, hr, hx⟩
      obtain ⟨p, hp, rfl⟩ := List.mem_map.mp hx
      obtain ⟨p1, p2⟩ := List.mem_filter.mp hp
      obtain ⟨h1, h2, h3⟩ := mem_allR.mp hr
      refine ⟨by rw [List.length_append, h1]; rfl, fun e he => ?_, asc_snoc.mpr ⟨h3, p2⟩⟩
      rcases List.mem_append.mp he with he | he
      · exact h2 e he
      · rw [List.mem_singleton.mp he]; exact p1
    · rintro ⟨h1, h2, h3⟩
      obtain ⟨L, z, rfl⟩ : ∃ L z, row = L ++ [z] := ⟨row.dropLast, row.getLast (fun e => by rw [e] at h1; cases h1), (List.dropLast_concat_getLast _).symm⟩
      rw [List.length_append] at h1
      obtain ⟨a1, a2⟩ := asc_snoc.mp h3
      refine ⟨L, mem_allR.mpr ⟨by have : L.length + 1 = k + 1 := h1; omega, fun e he => h2 e (List.mem_append_left _ he), a1⟩, List.mem_map.mpr ⟨z, List.mem_filter.mpr ⟨h2 z (by simp), a2⟩, rfl⟩⟩
theorem allR_few : ∀ n, n < 6 → ∀ k, k < 5 → (allR n k).length ≤ 210 := by decide +kernel
noncomputable def connB (n : Nat) (E : List (Nat × Nat)) : Bool := @decide (Conn n E) (Classical.propDecidable _)
theorem connB_iff {n : Nat} {E : List (Nat × Nat)} : connB n E = true ↔ Conn n E := @decide_eq_true_iff _ (Classical.propDecidable _)
noncomputable def spanR (n : Nat) : List (List (Nat × Nat)) := (allR n (n - 1)).filter (connB n)
theorem mem_spanR {n : Nat} (h : 1 ≤ n) {T : List (Nat × Nat)} : T ∈ spanR n ↔ Span n T := by
  unfold spanR
  rw [List.mem_filter, mem_allR, connB_iff]
  exact ⟨fun ⟨⟨h1, h2, h3⟩, h4⟩ => ⟨h3, h2, by omega, h4⟩, fun s => ⟨⟨by have := s.len; omega, s.sub, s.asc⟩, s.con⟩⟩
/-! labels -/
structure Lab (n : Nat) (E : List (Nat × Nat)) (ls : List Int) : Prop where
  len : ls.length = n
  eq : ∀ i j, i < n → j < n → (ls.getD i 0 = ls.getD j 0 ↔ Lk E i j)
theorem Lab.start (n : Nat) : Lab n [] ((List.range n).map fun i : Nat => (i : Int)) := by
  refine ⟨by rw [List.length_map, List.length_range], fun i j hi hj => ?_⟩
  rw [List.getD_eq_getElem?_getD, List.getD_eq_getElem?_getD, List.getElem?_map, List.getElem?_map, List.getElem?_range hi, List.getElem?_range hj]
  show ((i : Int) = (j : Int)) ↔ _
  exact ⟨fun e => by obtain rfl : i = j := Int.ofNat.inj e; exact .refl, fun l => by rw [l.nil]⟩
def relab (o w : Int) (ls : List Int) : List Int := ls.map fun x => if x = o then w else x
theorem Lab.step {n : Nat} {E : List (Nat × Nat)} {ls : List Int} (h : Lab n E ls) {a b : Nat} (ha : a < n) (hb : b < n) : Lab n (E ++ [(a, b)]) (relab (ls.getD b 0) (ls.getD a 0) ls) := by
  unfold relab
  refine ⟨by rw [List.length_map]; exact h.len, fun i j hi hj => ?_⟩
  have g : ∀ {i : Nat}, i < n → (ls.map fun x => if x = ls.getD b 0 then ls.getD a 0 else x).getD i 0 = if ls.getD i 0 = ls.getD b 0 then ls.getD a 0 else ls.getD i 0 := fun {i} hi => by
    rw [List.getD_eq_getElem?_getD, List.getElem?_map, List.getElem?_eq_getElem (by rw [h.len]; exact hi), List.getD_eq_getElem?_getD (l := ls) (i := i), List.getElem?_eq_getElem (by rw [h.len]; exact hi)]
    rfl
  rw [g hi, g hj, lk_snoc, ← h.eq i j hi hj, ← h.eq i a hi ha, ← h.eq b j hb hj, ← h.eq i b hi hb, ← h.eq a j ha hj]
  generalize ls.getD i 0 = x
  generalize ls.getD j 0 = y
  generalize ls.getD a 0 = p
  generalize ls.getD b 0 = q
  by_cases e1 : x = q
  · by_cases e2 : y = q
    · rw [if_pos e1, if_pos e2]
      exact ⟨fun _ => .inl (e1.trans e2.symm), fun _ => rfl⟩
    · rw [if_pos e1, if_neg e2]
      constructor
      · intro z; exact .inr (.inr ⟨e1, z⟩)
      · rintro (z | ⟨z1, z2⟩ | ⟨_, z⟩)
        · exact absurd (z ▸ e1) e2
        · exact absurd z2.symm e2
        · exact z
  · by_cases e2 : y = q
    · rw [if_neg e1, if_pos e2]
      constructor
      · intro z; exact .inr (.inl ⟨z, e2.symm⟩)
      · rintro (z | ⟨z, _⟩ | ⟨z, _⟩)
        · exact absurd (z.trans e2) e1
        · exact z
        · exact absurd z e1
    · rw [if_neg e1, if_neg e2]
      constructor
      · intro z; exact .inl z
      · rintro (z | ⟨_, z⟩ | ⟨z, _⟩)
        · exact z
        · exact absurd z.symm e2
        · exact absurd z e1
theorem Lab.conn {n : Nat} {E : List (Nat × Nat)} {ls : List Int} (h : Lab n E ls) (h1 : 1 ≤ n) : (∃ k, ls ≠ [] ∧ ∀ z ∈ ls, z = k) ↔ Conn n E := by
  have hl := h.len
  constructor
  · rintro ⟨k, _, hk⟩ i j hi hj
    refine (h.eq i j hi hj).mp ?_
    have gm : ∀ {i : Nat}, i < n → ls.getD i 0 ∈ ls := fun {i} hi => by rw [gd_lt (by omega)]; exact List.getElem_mem _
    rw [hk _ (gm hi), hk _ (gm hj)]
  · intro hc
    refine ⟨ls.getD 0 0, fun z => by rw [z] at hl; simp at hl; omega, fun z hz => ?_⟩
    obtain ⟨i, hi, e⟩ := List.getElem_of_mem hz
    have := (h.eq i 0 (by omega) (by omega)).mpr (hc i 0 (by omega) (by omega))
    rw [gd_lt hi, e] at this
    exact this
/-! the least trees -/
end Ml
namespace Ml
/-! ### the tree of pairs taken in the order of their levels, then of the pairs -/
def bef (t : List (List Int)) (f e : Nat × Nat) : Prop := lev t f.1 f.2 < lev t e.1 e.2 ∨ (lev t f.1 f.2 = lev t e.1 e.2 ∧ Plt f e)
theorem bef_ne {t : List (List Int)} {f e : Nat × Nat} (h : bef t f e) : f ≠ e := fun z => by
  subst z
  rcases h with h | ⟨_, h⟩
  · omega
  · unfold Plt at h
    omega
theorem bef_le {t : List (List Int)} {f e : Nat × Nat} (h : bef t f e) : lev t f.1 f.2 ≤ lev t e.1 e.2 := by
  rcases h with h | ⟨h, _⟩ <;> omega
/-- a pair that isn't taken is linked by pairs before it -/
structure Kr (t : List (List Int)) (T : List (Nat × Nat)) : Prop where
  span : Span t.length T
  out : ∀ e ∈ ppre t.length t.length, e ∉ T → ∃ F, (∀ f ∈ F, f ∈ T ∧ bef t f e) ∧ Lk F e.1 e.2
theorem Kr.exch {t : List (List Int)} {T S : List (Nat × Nat)} (K : Kr t T) (hS : Span t.length S) {e : Nat × Nat} (he : e ∈ S) (no : e ∉ T) : ∃ f, f ∈ T ∧ f ∉ S ∧ bef t f e ∧ ∃ S', Span t.length S' ∧ S'.Perm (S.erase e ++ [f]) := by
  obtain ⟨a, b⟩ := e
  obtain ⟨F, hF, w⟩ := K.out (a, b) (hS.sub _ he) no
  obtain ⟨x, y, r, lo, hi, hlt, hhi, o, nin, S', h1, h2⟩ := hS.over he (R := Ed F) (fun x y r => by
    rcases r with r | r
    · have := K.span.mem (hF _ r).1
      omega
    · have := K.span.mem (hF _ r).1
      omega) w
  have inF : (lo, hi) ∈ F := by
    rcases o with ⟨rfl, rfl⟩ | ⟨rfl, rfl⟩
    · rcases r with r | r
      · exact r
      · have := K.span.mem (hF _ r).1
        omega
    · rcases r with r | r
      · have := K.span.mem (hF _ r).1
        omega
      · exact r
  obtain ⟨g1, g2⟩ := hF _ inF
  exact ⟨(lo, hi), g1, fun z => nin ((List.mem_erase_of_ne (bef_ne g2)).mpr z), g2, S', h1, h2⟩
theorem sub_lenK : ∀ {S T : List (Nat × Nat)}, S.Nodup → (∀ x ∈ S, x ∈ T) → S.length ≤ T.length
  | [], T, _, _ => Nat.zero_le _
  | x :: S, T, nd, h => by
    obtain ⟨n1, n2⟩ := List.nodup_cons.mp nd
    have hx := h x List.mem_cons_self
    have := sub_lenK (T := T.erase x) n2 fun y hy => (List.mem_erase_of_ne (a := y) (b := x) (fun z => n1 (z ▸ hy))).mpr (h y (List.mem_cons_of_mem _ hy))
    rw [List.length_erase_of_mem hx] at this
    have := List.length_pos_of_mem hx
    rw [List.length_cons]
    omega
theorem Span.eq_of_sub {n : Nat} {S T : List (Nat × Nat)} (hS : Span n S) (hT : Span n T) (h : ∀ e ∈ S, e ∈ T) {g : Nat × Nat} (hg : g ∈ T) : g ∈ S := Classical.byContradiction fun no => by
  have := sub_lenK (T := T.erase g) hS.nd fun y hy => (List.mem_erase_of_ne (a := y) (b := g) (fun z => no (z ▸ hy))).mpr (h y hy)
  rw [List.length_erase_of_mem hg] at this
  have := List.length_pos_of_mem hg
  have := hS.len
  have := hT.len
  omega
theorem wsum_same {t : List (List Int)} {n : Nat} {S T : List (Nat × Nat)} (hS : Span n S) (hT : Span n T) (h : ∀ e ∈ S, e ∈ T) : wsum t S = wsum t T :=
  wsum_perm ((List.perm_ext_iff_of_nodup hS.nd hT.nd).mpr fun e => ⟨h e, fun g => hS.eq_of_sub hT h g⟩)
theorem Kr.le {t : List (List Int)} {T : List (Nat × Nat)} (K : Kr t T) : ∀ (k : Nat) (S : List (Nat × Nat)), Span t.length S → (S.filter fun e => decide (e ∉ T)).length ≤ k → wsum t T ≤ wsum t S := by
  intro k
  induction k with
  | zero =>
    intro S hS h
    have h0 : (S.filter fun e => decide (e ∉ T)) = [] := List.eq_nil_of_length_eq_zero (by omega)
    have sub : ∀ e ∈ S, e ∈ T := fun e he => Classical.byContradiction fun no => by
      have : e ∈ S.filter fun e => decide (e ∉ T) := List.mem_filter.mpr ⟨he, decide_eq_true no⟩
      rw [h0] at this
      cases this
    rw [wsum_same hS K.span sub]
    exact Int.le_refl _
  | succ k ih =>
    intro S hS h
    by_cases sub : ∀ e ∈ S, e ∈ T
    · rw [wsum_same hS K.span sub]
      exact Int.le_refl _
    · obtain ⟨e, he⟩ := Classical.not_forall.mp sub
      obtain ⟨heS, heT⟩ := Classical.not_imp.mp he
      obtain ⟨f, f1, f2, f3, S', h1, h2⟩ := K.exch hS heS heT
      have p1 : (S.filter fun e => decide (e ∉ T)).length = ((S.erase e).filter fun e => decide (e ∉ T)).length + 1 := by
        have := ((List.perm_cons_erase heS).filter fun e => decide (e ∉ T)).length_eq
        rw [this, List.filter_cons, if_pos (decide_eq_true heT)]
        rfl
      have p2 : (S'.filter fun e => decide (e ∉ T)).length = ((S.erase e).filter fun e => decide (e ∉ T)).length := by
        rw [(h2.filter fun e => decide (e ∉ T)).length_eq, List.filter_append, List.length_append, List.filter_cons, if_neg (by simp [f1])]
        rfl
      have := ih S' h1 (by omega)
      have w : wsum t S' = wsum t S - lev t e.1 e.2 + lev t f.1 f.2 := (wsum_perm h2).trans (wsum_swap heS)
      have := bef_le f3
      omega
theorem Kr.least {t : List (List Int)} {T : List (Nat × Nat)} (K : Kr t T) : Least t T := ⟨K.span, fun S hS => K.le _ S hS (Nat.le_refl _)⟩
theorem Span.eq {n : Nat} {S T : List (Nat × Nat)} (hS : Span n S) (hT : Span n T) (h : ∀ e, e ∈ S ↔ e ∈ T) : S = T :=
  ((List.perm_ext_iff_of_nodup hS.nd hT.nd).mpr h).eq_of_pairwise (le := fun p q => Plt p q ∨ p = q) (fun a b _ _ x y => by
    rcases x with x | x
    · rcases y with y | y
      · unfold Plt at x y
        omega
      · exact y.symm
    · exact x) (hS.asc.imp fun z => .inl z) (hT.asc.imp fun z => .inl z)
/-- the first of the least ones -/
theorem Kr.first {t : List (List Int)} {T S : List (Nat × Nat)} (K : Kr t T) (hS : Least t S) (ne : S ≠ T) : ∃ e ∈ T, e ∉ S ∧ ∀ f, Plt f e → (f ∈ T ↔ f ∈ S) := by
  have dif : ((ppre t.length t.length).filter fun e => decide (e ∈ T) != decide (e ∈ S)) ≠ [] := fun z => ne (hS.span.eq K.span fun e => by
    have sub : ∀ e, (e ∈ S ∨ e ∈ T) → (e ∈ S ↔ e ∈ T) := fun e he => by
      have hp : e ∈ ppre t.length t.length := by
        rcases he with he | he
        · exact hS.span.sub e he
        · exact K.span.sub e he
      by_cases h1 : e ∈ T <;> by_cases h2 : e ∈ S
      · exact ⟨fun _ => h1, fun _ => h2⟩
      · have : e ∈ ((ppre t.length t.length).filter fun e => decide (e ∈ T) != decide (e ∈ S)) := List.mem_filter.mpr ⟨hp, by simp [h1, h2]⟩
        rw [z] at this
        cases this
      · have : e ∈ ((ppre t.length t.length).filter fun e => decide (e ∈ T) != decide (e ∈ S)) := List.mem_filter.mpr ⟨hp, by simp [h1, h2]⟩
        rw [z] at this
        cases this
      · exact ⟨fun z => absurd z h2, fun z => absurd z h1⟩
    exact ⟨fun h => (sub e (.inl h)).mp h, fun h => (sub e (.inr h)).mpr h⟩)
  obtain ⟨e, es, hes⟩ := List.exists_cons_of_ne_nil dif
  have srt := (ppre_sorted t.length t.length).filter fun e => decide (e ∈ T) != decide (e ∈ S)
  rw [hes] at srt
  have hem : e ∈ (ppre t.length t.length).filter fun e => decide (e ∈ T) != decide (e ∈ S) := by rw [hes]; exact List.mem_cons_self
  obtain ⟨hep, hex⟩ := List.mem_filter.mp hem
  have first : ∀ f, Plt f e → (f ∈ T ↔ f ∈ S) := fun f hf => by
    have key : (f ∈ T ∨ f ∈ S) → (f ∈ T ↔ f ∈ S) := fun ho => Classical.byContradiction fun no => by
      have hp : f ∈ ppre t.length t.length := by
        rcases ho with h | h
        · exact K.span.sub f h
        · exact hS.span.sub f h
      have : f ∈ (ppre t.length t.length).filter fun e => decide (e ∈ T) != decide (e ∈ S) := List.mem_filter.mpr ⟨hp, by
        by_cases h1 : f ∈ T <;> by_cases h2 : f ∈ S
        · exact absurd ⟨fun _ => h2, fun _ => h1⟩ no
        · simp [h1, h2]
        · simp [h1, h2]
        · exact absurd ⟨fun z => absurd z h1, fun z => absurd z h2⟩ no⟩
      rw [hes] at this
      rcases List.mem_cons.mp this with z | z
      · subst z
        unfold Plt at hf
        omega
      · have := (List.pairwise_cons.mp srt).1 f z
        unfold Plt at this hf
        omega
    by_cases h1 : f ∈ T
    · exact key (.inl h1)
    · by_cases h2 : f ∈ S
      · exact key (.inr h2)
      · exact ⟨fun z => absurd z h1, fun z => absurd z h2⟩
  by_cases h1 : e ∈ T
  · refine ⟨e, h1, fun h2 => ?_, first⟩
    simp [h1, h2] at hex
  · exfalso
    have h2 : e ∈ S := Classical.byContradiction fun h2 => by simp [h1, h2] at hex
    obtain ⟨f, f1, f2, f3, S', g1, g2⟩ := K.exch hS.span h2 h1
    have w : wsum t S' = wsum t S - lev t e.1 e.2 + lev t f.1 f.2 := (wsum_perm g2).trans (wsum_swap h2)
    have := hS.le S' g1
    rcases f3 with f3 | ⟨_, f3⟩
    · omega
    · exact f2 ((first f f3).mp f1)
/-! ### the cheapest tree that holds chosen pairs -/
structure Kc (t : List (List Int)) (C T : List (Nat × Nat)) : Prop where
  span : Span t.length T
  sub : ∀ e ∈ C, e ∈ T
  out : ∀ e ∈ ppre t.length t.length, e ∉ T → ∃ F, (∀ f ∈ F, f ∈ T ∧ (f ∈ C ∨ lev t f.1 f.2 ≤ lev t e.1 e.2)) ∧ Lk F e.1 e.2
theorem Kc.exch {t : List (List Int)} {C T S : List (Nat × Nat)} (K : Kc t C T) (hS : Span t.length S) (hC : ∀ e ∈ C, e ∈ S) {e : Nat × Nat} (he : e ∈ S) (no : e ∉ T) : ∃ f, f ∈ T ∧ f ∉ S ∧ lev t f.1 f.2 ≤ lev t e.1 e.2 ∧ ∃ S', Span t.length S' ∧ S'.Perm (S.erase e ++ [f]) := by
  obtain ⟨a, b⟩ := e
  obtain ⟨F, hF, w⟩ := K.out (a, b) (hS.sub _ he) no
  obtain ⟨x, y, r, lo, hi, hlt, hhi, o, nin, S', h1, h2⟩ := hS.over he (R := Ed F) (fun x y r => by
    rcases r with r | r
    · have := K.span.mem (hF _ r).1
      omega
    · have := K.span.mem (hF _ r).1
      omega) w
  have inF : (lo, hi) ∈ F := by
    rcases o with ⟨rfl, rfl⟩ | ⟨rfl, rfl⟩
    · rcases r with r | r
      · exact r
      · have := K.span.mem (hF _ r).1
        omega
    · rcases r with r | r
      · have := K.span.mem (hF _ r).1
        omega
      · exact r
  obtain ⟨g1, g2⟩ := hF _ inF
  have ne : (lo, hi) ≠ (a, b) := fun z => no (z ▸ g1)
  have nS : (lo, hi) ∉ S := fun z => nin ((List.mem_erase_of_ne ne).mpr z)
  refine ⟨(lo, hi), g1, nS, ?_, S', h1, h2⟩
  rcases g2 with g2 | g2
  · exact absurd (hC _ g2) nS
  · exact g2
theorem Kc.le {t : List (List Int)} {C T : List (Nat × Nat)} (K : Kc t C T) : ∀ (k : Nat) (S : List (Nat × Nat)), Span t.length S → (∀ e ∈ C, e ∈ S) → (S.filter fun e => decide (e ∉ T)).length ≤ k → wsum t T ≤ wsum t S := by
  intro k
  induction k with
  | zero =>
    intro S hS hC h
    have h0 : (S.filter fun e => decide (e ∉ T)) = [] := List.eq_nil_of_length_eq_zero (by omega)
    have sub : ∀ e ∈ S, e ∈ T := fun e he => Classical.byContradiction fun no => by
      have : e ∈ S.filter fun e => decide (e ∉ T) := List.mem_filter.mpr ⟨he, decide_eq_true no⟩
      rw [h0] at this
      cases this
    rw [wsum_same hS K.span sub]
    exact Int.le_refl _
  | succ k ih =>
    intro S hS hC h
    by_cases sub : ∀ e ∈ S, e ∈ T
    · rw [wsum_same hS K.span sub]
      exact Int.le_refl _
    · obtain ⟨e, he⟩ := Classical.not_forall.mp sub
      obtain ⟨heS, heT⟩ := Classical.not_imp.mp he
      obtain ⟨f, f1, f2, f3, S', h1, h2⟩ := K.exch hS hC heS heT
      have p1 : (S.filter fun e => decide (e ∉ T)).length = ((S.erase e).filter fun e => decide (e ∉ T)).length + 1 := by
        have := ((List.perm_cons_erase heS).filter fun e => decide (e ∉ T)).length_eq
        rw [this, List.filter_cons, if_pos (decide_eq_true heT)]
        rfl
      have p2 : (S'.filter fun e => decide (e ∉ T)).length = ((S.erase e).filter fun e => decide (e ∉ T)).length := by
        rw [(h2.filter fun e => decide (e ∉ T)).length_eq, List.filter_append, List.length_append, List.filter_cons, if_neg (by simp [f1])]
        rfl
      have := ih S' h1 (fun c hc => h2.mem_iff.mpr (List.mem_append_left _ ((List.mem_erase_of_ne (a := c) (b := e) (fun z => heT (z ▸ K.sub c hc))).mpr (hC c hc)))) (by omega)
      have w : wsum t S' = wsum t S - lev t e.1 e.2 + lev t f.1 f.2 := (wsum_perm h2).trans (wsum_swap heS)
      omega
/-- a pair is in the first of the least trees when some least tree holds it and what is before it -/
theorem Kr.next {t : List (List Int)} {T : List (Nat × Nat)} (K : Kr t T) {e : Nat × Nat} : e ∈ T ↔ ∃ S, Least t S ∧ e ∈ S ∧ ∀ f ∈ T, Plt f e → f ∈ S := by
  constructor
  · exact fun h => ⟨T, K.least, h, fun f hf _ => hf⟩
  · rintro ⟨S, hS, h1, h2⟩
    refine Classical.byContradiction fun no => ?_
    have ne : S ≠ T := fun z => no (z ▸ h1)
    obtain ⟨g, g1, g2, g3⟩ := K.first hS ne
    have ngl : ¬ Plt g e := fun z => g2 (h2 g g1 z)
    have gne : ¬ (g.1 = e.1 ∧ g.2 = e.2) := fun z => no (by rw [show e = g from Prod.ext z.1.symm z.2.symm]; exact g1)
    have lt : Plt e g := by
      unfold Plt at ngl ⊢
      omega
    exact no ((g3 e lt).mpr h1)
end Ml
namespace Ml
open PySem PySem.Spec PyProof.Rows L2
/-! ### one level raised or lowered: what becomes of the joining levels -/
/-- the joining levels are the greatest ultrametric below -/
theorem le_jn {t : List (List Int)} (hW : WT t) {U : Nat → Nat → Int} (h0 : ∀ i, i < t.length → U i i ≤ 0) (tri : ∀ i j k, i < t.length → j < t.length → k < t.length → U i k ≤ max (U i j) (U j k)) (le : ∀ i j, i < t.length → j < t.length → U i j ≤ lev t i j) {i j : Nat} (hi : i < t.length) (hj : j < t.length) : U i j ≤ jn t i j := by
  have key : ∀ {k : Nat}, Wk (lev t) t.length (jn t i j) i k → k < t.length → U i k ≤ jn t i j := fun w => by
    induction w with
    | refl =>
      intro _
      have := h0 i hi
      have := jn_nn hW hi hj
      omega
    | @step a b _ ha hb hs ih =>
      intro _
      have h1 := ih ha
      have h2 := le a b ha hb
      have h3 := tri i a b hi ha hb
      omega
  exact key (jn_walk hW hi hj) hj
end Ml
namespace Ml
open PySem PySem.Spec PyProof.Rows L2
/-! ### tables side by side, glued tables the other way round, items taken out -/
/-! tables side by side -/
def sf (lv : Int) (t u : List (List Int)) (f g : Nat → Nat → Int) (i j : Nat) : Int :=
  if i < t.length then (if j < t.length then f i j else lv) else (if j < t.length then lv else g (i - t.length) (j - t.length))
end Ml
namespace Ml
open PySem PySem.Spec PyProof.Rows L2
/-! ### written values: laid anew, at addresses that were free in H0 -/
mutual
inductive Fv (H0 H : Hp) : V → PyData → Prop
  | non : Fv H0 H .non .none
  | bl (b : Bool) : Fv H0 H (.bl b) (.bool b)
  | int (i : Int) : Fv H0 H (.int i) (.int i)
  | str (x : Str) : Fv H0 H (.str x) (.str x)
  | tup {a : Addr} {xs : List V} {ds : List PyData} : H a = some (.tup xs) → H0 a = none → FvAll H0 H xs ds → Fv H0 H (.ref a) (.tuple ds)
  | lst {a : Addr} {xs : List V} {ds : List PyData} : H a = some (.lst xs) → H0 a = none → FvAll H0 H xs ds → Fv H0 H (.ref a) (.list ds)
  | dct {a : Addr} : H a = some (.dK []) → H0 a = none → Fv H0 H (.ref a) (.dict [])
inductive FvAll (H0 H : Hp) : List V → List PyData → Prop
  | nil : FvAll H0 H [] []
  | cons {v : V} {vs : List V} {d : PyData} {ds : List PyData} : Fv H0 H v d → FvAll H0 H vs ds → FvAll H0 H (v :: vs) (d :: ds)
end
theorem FvAll.len {H0 H : Hp} : ∀ {ds : List PyData} {vs : List V}, FvAll H0 H vs ds → vs.length = ds.length
  | _, _, .nil => rfl
  | _, _, .cons _ b => by rw [List.length_cons, List.length_cons, b.len]
theorem FvAll.at {H0 H : Hp} : ∀ {ds : List PyData} {vs : List V}, FvAll H0 H vs ds → ∀ {i : Nat} {v : V}, vs[i]? = some v → ∃ d, ds[i]? = some d ∧ Fv H0 H v d
  | _, _, .nil, i, v, e => by simp at e
  | _, _, .cons a b, 0, v, e => by cases Option.some.inj e; exact ⟨_, rfl, a⟩
  | _, _, .cons a b, i + 1, v, e => FvAll.at b (i := i) (by simpa using e)
theorem FvAll.append {H0 H : Hp} : ∀ {ds es : List PyData} {vs us : List V}, FvAll H0 H vs ds → FvAll H0 H us es → FvAll H0 H (vs ++ us) (ds ++ es)
  | _, _, _, _, .nil, h => h
  | _, _, _, _, .cons a b, h => .cons a (FvAll.append b h)
/-! ### the readings of written values -/
end Ml
namespace Ml
open PySem PySem.Spec PyProof.Rows L2
/-! ### pairs as data -/
abbrev e2 (p : Nat × Nat) : List Int := [(p.1 : Int), (p.2 : Int)]
theorem prs_rows {K : PySem.W.Frag} {H : Hp} {vs : List V} {E : List (Nat × Nat)} (h : Prs K H vs E) : Rows K H vs (E.map e2) := by
  refine ⟨by rw [List.length_map]; exact h.1, fun i v ns a b => ?_⟩
  rw [List.getElem?_map] at b
  cases e : E[i]? with
  | none => rw [e] at b; cases b
  | some p =>
    rw [e] at b
    cases Option.some.inj b
    obtain ⟨q, h1, h2⟩ := h.2 i v p a e
    exact ⟨q, h1, h2⟩
theorem Prs.kp {K : PySem.W.Frag} {H H' : Hp} {d c r : Addr} {n : Nat} {vs : List V} {E : List (Nat × Nat)} (h : Prs K H vs E) (g : Dr H d c r n) (e : Kp d r H H') : Prs K H' vs E :=
  ⟨h.1, fun i v p a b => let ⟨q, h1, h2⟩ := h.2 i v p a b; ⟨q, h1, g.kpT e h2⟩⟩
abbrev prsD (E : List (Nat × Nat)) : PyData := .tuple ((E.map e2).map rowD)
theorem prs_dp {K : PySem.W.Frag} {H : Hp} {p : Addr} {vs : List V} {E : List (Nat × Nat)} (hp : SqT K H p vs) (h : Prs K H vs E) : Dp K H (.ref p) (prsD E) := .tup hp (rows_dp (prs_rows h))
theorem lay_tab (t : List (List Int)) : SeqAt.shaped (tabD t) = true := by
  show ((PyData.tuple (t.map rowD)).canLay0 && decide ((PyData.tuple (t.map rowD)).depth ≤ 64)) = true
  have h := dep_rows t
  have d : (PyData.tuple (t.map rowD)).depth ≤ 64 := by
    have e : (PyData.tuple (t.map rowD)).depth = PyData.depthAll (t.map rowD) + 1 := by simp [PyData.depth]
    omega
  have l : (PyData.tuple (t.map rowD)).canLay0 = true := by simp [PyData.canLay0, lay_rows t]
  rw [l, decide_eq_true d]
  rfl
theorem TT.upd {K : PySem.W.Frag} {H : Hp} {p : Addr} {ys zs : List V} {v : V} {t : List (List Int)} (h : TT K H v t) (hp : H p = some (.lst ys)) : TT K (L2.upd H p (.lst zs)) v t := by
  obtain ⟨q, vs, h1, h2, h3⟩ := h
  exact ⟨q, vs, h1, sqT_upd hp h2, h3.upd hp⟩
theorem any_e2 (E : List (Nat × Nat)) (a b : Nat) : ((E.map e2).map rowD).any (fun z => PyData.eqv z (rowD [(a : Int), (b : Int)])) = decide ((a, b) ∈ E) := by
  induction E with
  | nil => simp
  | cons p E ih =>
    rw [List.map_cons, List.map_cons, List.any_cons, ih]
    show (PyData.eqv (.tuple ((e2 p).map PyData.int)) (.tuple ([(a : Int), (b : Int)].map PyData.int)) || _) = _
    rw [eqv_tup]
    by_cases h : p = (a, b)
    · subst h
      simp
    · have h1 : ¬ (e2 p = [(a : Int), (b : Int)]) := fun z => h (by
        obtain ⟨x, y⟩ := p
        simp at z
        rw [show x = a by omega, show y = b by omega])
      have h2 : ¬ (a, b) = p := fun z => h z.symm
      simp [h1, h2]
end Ml
namespace Ml
open PySem PySem.Spec PyProof.Rows L2
/-! ### a tuple turned round; a tuple of data that has one -/
theorem turn_bounds (n : Nat) : Builtin.Slice.sliceAdjust none none (-1) (n : Int) = ((n : Int) - 1, -1) := by
  unfold Builtin.Slice.sliceAdjust
  simp only [show ((-1 : Int) < 0) from by decide, if_true]
theorem turn_places (n : Nat) : Builtin.Slice.slicePlaces ((n : Int) - 1) (-1) (-1) = n := by
  unfold Builtin.Slice.slicePlaces
  rw [if_neg (by decide)]
  by_cases h : (n : Int) - 1 > -1
  · rw [if_pos h, show (-(-1 : Int)) = 1 from rfl, Int.ediv_one]
    omega
  · rw [if_neg h]
    omega
theorem filt_map {α β : Type} {f : α → Option β} {g : α → β} : ∀ {l : List α}, (∀ x ∈ l, f x = some (g x)) → l.filterMap f = l.map g
  | [], _ => rfl
  | a :: l, h => by
    rw [List.filterMap_cons, h a (List.mem_cons_self ..), List.map_cons, filt_map fun x hx => h x (List.mem_cons_of_mem _ hx)]
theorem turn_pick (xs : Array Value) : ((List.range xs.size).filterMap fun (m : Nat) => xs[(((xs.size : Int) - 1) + (m : Int) * (-1)).toNat]?).toArray = xs.toList.reverse.toArray := by
  congr 1
  refine List.ext_getElem? fun i => ?_
  have e : (List.range xs.size).filterMap (fun (m : Nat) => xs[(((xs.size : Int) - 1) + (m : Int) * (-1)).toNat]?) = (List.range xs.size).map (fun m => xs.toList.getD (xs.size - 1 - m) .none) := by
    refine filt_map fun m hm => ?_
    have hm := List.mem_range.mp hm
    have z : (((xs.size : Int) - 1) + (m : Int) * (-1)).toNat = xs.size - 1 - m := by omega
    rw [z]
    rw [List.getD_eq_getElem?_getD, Array.getElem?_toList, Array.getElem?_eq_getElem (by omega)]
    rfl
  rw [e, List.getElem?_map]
  by_cases hi : i < xs.size
  · rw [List.getElem?_range hi, List.getElem?_reverse (by rw [Array.length_toList]; exact hi), Array.length_toList]
    show some (xs.toList.getD (xs.size - 1 - i) .none) = _
    rw [List.getD_eq_getElem?_getD, List.getElem?_eq_getElem (by rw [Array.length_toList]; omega)]
    rfl
  · rw [List.getElem?_eq_none (by rw [List.length_range]; omega), List.getElem?_eq_none (by rw [List.length_reverse, Array.length_toList]; omega)]
    rfl
section
variable {prog : Program} {w : World} {A : Around} {E : Value → Shared → Prop} {s : Shared}
theorem cut_turned {B : Around} {F : Value → Shared → Prop} {sl : Addr} {vl vu vs : Value} {n : Nat} {Q : Int × Int × Nat → Shared → Prop} (hs : s.heap.IsSliceOf sl vl vu vs) (pl : IsPart vl none) (pu : IsPart vu none) (ps : IsPart vs (some (-1))) (h : Q ((n : Int) - 1, -1, n) s) :
    wpAny (model prog w) B (Builtin.Slice.sliceApplied (.ref sl) (pure (n : Int))) Q F s := by
  obtain ⟨os, hos, hcs, hds⟩ := id hs
  unfold Builtin.Slice.sliceApplied Builtin.Slice.sliceFields
  refine wpAny_bind (wpAny_bind (wpAny_field hos hds (x := vl) rfl (wpAny_bind (wpAny_field hos hds (x := vu) rfl (wpAny_bind (wpAny_field hos hds (x := vs) rfl (wpAny_pure ?_)))))))
  refine wpAny_bind (HT.slicePart_ ps ?_)
  show wpAny _ _ (if ((-1 : Int) == 0) = true then _ else _) _ _ s
  rw [if_neg (by decide)]
  refine wpAny_bind (HT.slicePart_ pl (wpAny_bind (HT.slicePart_ pu (wpAny_bind (wpAny_pure ?_)))))
  show wpAny _ _ (match Builtin.Slice.sliceAdjust none none (-1) (n : Int) with | (lo, hi) => pure (lo, (-1 : Int), Builtin.Slice.slicePlaces lo hi (-1))) _ _ s
  rw [turn_bounds]
  show wpAny _ _ (pure ((n : Int) - 1, (-1 : Int), Builtin.Slice.slicePlaces ((n : Int) - 1) (-1) (-1))) _ _ s
  rw [turn_places]
  exact wpAny_pure h
theorem turned {t sl : Addr} {items : Array Value} {vl vu vs : Value} {Q : Value → Shared → Prop} (ht : PyProof.Rows.IsTup s.heap t items) (hs : s.heap.IsSliceOf sl vl vu vs) (pl : IsPart vl none) (pu : IsPart vu none) (ps : IsPart vs (some (-1)))
    (h : Q (.ref s.heap.objs.size) { s with heap := s.heap.push { cls := .type "tuple", data := .seq items.toList.reverse.toArray } }) (hsz : items.size ≤ sizeLine) : wpAny (model prog w) A (getItem (.ref t) (.ref sl)) Q E s := by
  have fits : sizeOk (.seq items.toList.reverse.toArray) := by
    show items.toList.reverse.toArray.size ≤ sizeLine
    rw [List.size_toArray, List.length_reverse, Array.length_toList]
    exact hsz
  obtain ⟨os, hos, hcs, hds⟩ := id hs
  have isS : s.TypeIs (.ref sl) "slice" := ⟨os, hos, hcs⟩
  have isT : s.TypeIs (.ref t) "tuple" := ht.typeIs
  unfold getItem
  try with_reducible refine wpAny_holding ?_
  first | refine wpAny_bind (wpAny_pure ?_) | skip
  refine wpAny_bind (wpAny_sequenceKey isT (by decide) ?_)
  refine wpAny_bind (wpAny_callSpecial?_slot (name := Str.ofString "__getitem__") isT PyProof.Rows.slot_tuple_getitem (wpAny_call_entry PyProof.Rows.slot_tuple_getitem isT entry_tuple_getitem ?_ (args_tuple_getitem _ _)))
  show wpAny _ _ (Builtin.Tuple.tupleItemsOf (.ref t) >>= _) _ _ s
  refine wpAny_bind (PyProof.Rows.tupleItemsOf_ ht ?_)
  refine wpAny_bind (wpAny_typeOf isS ?_)
  rw [if_pos (by decide)]
  refine wpAny_bind (cut_turned hs pl pu ps ?_)
  show wpAny _ _ (if (((items.size : Int) - 1 == 0) && ((-1 : Int) == 1) && (items.size == items.size)) = true then _ else _) _ _ s
  rw [if_neg (by simp), turn_pick]
  first
    | exact wpAny_bind (m := Builtin.Tuple.tupleExact _) (wpAny_newObj_type (wpAny_pure ⟨_, rfl, wpAny_pure h⟩) fits)
    | exact wpAny_bind (m := Builtin.Tuple.tupleExact _) (wpAny_newObj_type (wpAny_bind (wpAny_pure (wpAny_pure ⟨_, rfl, wpAny_pure h⟩))) fits)
    | exact wpAny_bind (wpAny_bind (m := Builtin.Tuple.tupleExact _) (wpAny_newObj_type (wpAny_pure (wpAny_pure ⟨_, rfl, wpAny_pure h⟩)) fits))
    | exact wpAny_bind (wpAny_bind (m := Builtin.Tuple.tupleExact _) (wpAny_newObj_type (wpAny_pure ⟨_, rfl, wpAny_pure h⟩) fits))
end
end Ml
/-! enumerate(tuple) -/
namespace Ml
open PySem PySem.Spec PyProof.Rows L2
/-! ### new lists lie past the interpreter's own cells -/
/-! ### values of any kind -/
mutual
inductive Da (K : PySem.W.Frag) (ok : Addr → Prop) (H : Hp) : V → PyData → Prop
  | non : Da K ok H .non .none
  | bl (b : Bool) : Da K ok H (.bl b) (.bool b)
  | int (i : Int) : Da K ok H (.int i) (.int i)
  | str (x : Str) : Da K ok H (.str x) (.str x)
  | lst {a : Addr} {xs : List V} {ds : List PyData} : H a = some (.lst xs) → ok a → a ≠ sysModules → DaAll K ok H xs ds → Da K ok H (.ref a) (.list ds)
  | tup {a : Addr} {xs : List V} {ds : List PyData} : SqT K H a xs → DaAll K ok H xs ds → Da K ok H (.ref a) (.tuple ds)
  | dct {a : Addr} : H a = some (.dK []) → ok a → Da K ok H (.ref a) (.dict [])
inductive DaAll (K : PySem.W.Frag) (ok : Addr → Prop) (H : Hp) : List V → List PyData → Prop
  | nil : DaAll K ok H [] []
  | cons {v : V} {vs : List V} {d : PyData} {ds : List PyData} : Da K ok H v d → DaAll K ok H vs ds → DaAll K ok H (v :: vs) (d :: ds)
end
section
variable {K : PySem.W.Frag} {ok : Addr → Prop} {H H' : Hp}
mutual
theorem Da.to (e1 : ∀ a o, H a = some o → ok a → H' a = some o) (e2 : ∀ a xs, SqT K H a xs → SqT K H' a xs) : ∀ {d : PyData} {v : V}, Da K ok H v d → Da K ok H' v d
  | _, _, .non => .non
  | _, _, .bl b => .bl b
  | _, _, .int i => .int i
  | _, _, .str x => .str x
  | _, _, .lst h o n g => .lst (e1 _ _ h o) o n (DaAll.to e1 e2 g)
  | _, _, .tup h g => .tup (e2 _ _ h) (DaAll.to e1 e2 g)
  | _, _, .dct h o => .dct (e1 _ _ h o) o
theorem DaAll.to (e1 : ∀ a o, H a = some o → ok a → H' a = some o) (e2 : ∀ a xs, SqT K H a xs → SqT K H' a xs) : ∀ {ds : List PyData} {vs : List V}, DaAll K ok H vs ds → DaAll K ok H' vs ds
  | _, _, .nil => .nil
  | _, _, .cons a b => .cons (Da.to e1 e2 a) (DaAll.to e1 e2 b)
end
theorem Da.same {d : PyData} {v : V} (h : Da K ok H v d) (e : Sm H H') : Da K ok H' v d := h.to (fun a o h _ => e a o h) fun a xs h => e.sqT h
theorem DaAll.same {ds : List PyData} {vs : List V} (h : DaAll K ok H vs ds) (e : Sm H H') : DaAll K ok H' vs ds := h.to (fun a o h _ => e a o h) fun a xs h => e.sqT h
theorem Da.kp {d c r : Addr} {n : Nat} {x : PyData} {v : V} (h : Da K ok H v x) (hok : ∀ a, ok a → a ≠ d ∧ a ≠ r) (D : Dr H d c r n) (e : Kp d r H H') : Da K ok H' v x :=
  h.to (fun a o h o' => e a o h (hok a o').1 (hok a o').2) fun a xs h => D.kpT e h
theorem DaAll.kp {d c r : Addr} {n : Nat} {ds : List PyData} {vs : List V} (h : DaAll K ok H vs ds) (hok : ∀ a, ok a → a ≠ d ∧ a ≠ r) (D : Dr H d c r n) (e : Kp d r H H') : DaAll K ok H' vs ds :=
  h.to (fun a o h o' => e a o h (hok a o').1 (hok a o').2) fun a xs h => D.kpT e h
theorem DaAll.len : ∀ {ds : List PyData} {vs : List V}, DaAll K ok H vs ds → vs.length = ds.length
  | _, _, .nil => rfl
  | _, _, .cons _ b => by rw [List.length_cons, List.length_cons, b.len]
theorem DaAll.at : ∀ {ds : List PyData} {vs : List V}, DaAll K ok H vs ds → ∀ {i : Nat} {v : V}, vs[i]? = some v → ∃ d, ds[i]? = some d ∧ Da K ok H v d
  | _, _, .nil, i, v, e => by simp at e
  | _, _, .cons a b, 0, v, e => by cases Option.some.inj e; exact ⟨_, rfl, a⟩
  | _, _, .cons a b, i + 1, v, e => DaAll.at b (i := i) (by simpa using e)
theorem DaAll.append : ∀ {ds es : List PyData} {vs us : List V}, DaAll K ok H vs ds → DaAll K ok H us es → DaAll K ok H (vs ++ us) (ds ++ es)
  | _, _, _, _, .nil, h => h
  | _, _, _, _, .cons a b, h => .cons a (DaAll.append b h)
theorem DaAll.take : ∀ (k : Nat) {ds : List PyData} {vs : List V}, DaAll K ok H vs ds → DaAll K ok H (vs.take k) (ds.take k)
  | 0, _, _, _ => by rw [List.take_zero, List.take_zero]; exact .nil
  | k + 1, _, _, .nil => .nil
  | k + 1, _, _, .cons a b => .cons a (DaAll.take k b)
theorem DaAll.drop : ∀ (k : Nat) {ds : List PyData} {vs : List V}, DaAll K ok H vs ds → DaAll K ok H (vs.drop k) (ds.drop k)
  | 0, _, _, h => h
  | k + 1, _, _, .nil => .nil
  | k + 1, _, _, .cons a b => DaAll.drop k b
theorem DaAll.one {v : V} {d : PyData} (h : Da K ok H v d) : DaAll K ok H [v] [d] := .cons h .nil
theorem Da.ty {d : PyData} {v : V} (h : Da K ok H v d) : TyX K H v (.type (tyN d)) := by
  cases h with
  | non => exact .base .non
  | bl b => exact .base (.bl b)
  | int i => exact .base (.int i)
  | str x => exact .base (.str x)
  | lst h _ _ _ => exact .base (.lst h)
  | tup h _ => exact ty_tup h
  | dct h _ => exact .base (.dK h)
theorem kit_tup : ∀ d : PyData, kitB (tyN d) "tuple" = some (match d with | .tuple _ => true | _ => false)
  | .none => (by decide +kernel : kitB "NoneType" "tuple" = some false)
  | .bool _ => (by decide +kernel : kitB "bool" "tuple" = some false)
  | .int _ => (by decide +kernel : kitB "int" "tuple" = some false)
  | .str _ => (by decide +kernel : kitB "str" "tuple" = some false)
  | .list _ => (by decide +kernel : kitB "list" "tuple" = some false)
  | .tuple _ => (by decide +kernel : kitB "tuple" "tuple" = some true)
  | .dict _ => (by decide +kernel : kitB "dict" "tuple" = some false)
theorem kit_int : ∀ d : PyData, kitB (tyN d) "int" = some (match d with | .int _ => true | .bool _ => true | _ => false)
  | .none => (by decide +kernel : kitB "NoneType" "int" = some false)
  | .bool _ => (by decide +kernel : kitB "bool" "int" = some true)
  | .int _ => (by decide +kernel : kitB "int" "int" = some true)
  | .str _ => (by decide +kernel : kitB "str" "int" = some false)
  | .list _ => (by decide +kernel : kitB "list" "int" = some false)
  | .tuple _ => (by decide +kernel : kitB "tuple" "int" = some false)
  | .dict _ => (by decide +kernel : kitB "dict" "int" = some false)
theorem kit_bool : ∀ d : PyData, kitB (tyN d) "bool" = some (match d with | .bool _ => true | _ => false)
  | .none => (by decide +kernel : kitB "NoneType" "bool" = some false)
  | .bool _ => (by decide +kernel : kitB "bool" "bool" = some true)
  | .int _ => (by decide +kernel : kitB "int" "bool" = some false)
  | .str _ => (by decide +kernel : kitB "str" "bool" = some false)
  | .list _ => (by decide +kernel : kitB "list" "bool" = some false)
  | .tuple _ => (by decide +kernel : kitB "tuple" "bool" = some false)
  | .dict _ => (by decide +kernel : kitB "dict" "bool" = some false)
end
/-! ### their texts -/
mutual
theorem Da.reads {X : Cx} {pins : List (Addr × Obj)} {σ : L2.St} {H : Hp} {s : Shared} {ok : Addr → Prop} (I : L2.Inv X pins σ H s) : ∀ {d : PyData} {v : V}, Da X.K ok H v d → ∀ {u : Value}, RelV v u → ∃ as, Reads s.heap u d as ∧ sysModules ∉ as
  | _, _, .non, u, r => by cases r; exact ⟨_, .none, by simp⟩
  | _, _, .bl b, u, r => by cases r; exact ⟨_, .bool b, by simp⟩
  | _, _, .int i, u, r => by obtain ⟨t, rfl⟩ := r; exact ⟨_, .int i t, by simp⟩
  | _, _, .str x, u, r => by obtain ⟨t, rfl⟩ := r; exact ⟨_, .str x t, by simp⟩
  | _, _, .lst (a := a) h o n g, u, r => by
    cases r
    obtain ⟨_, its, m, r', e⟩ := I.hok _ _ h
    obtain ⟨as, ra, na⟩ := DaAll.reads I g r'
    exact ⟨a :: as, .list e rfl rfl (by simpa using ra), fun z => by rcases List.mem_cons.mp z with z | z; exact n z.symm; exact na z⟩
  | _, _, .tup h g, u, r => by
    cases r
    obtain ⟨its, r', ⟨o, ho, hc, m, hd⟩, _⟩ := I.tuple h
    obtain ⟨as, ra, na⟩ := DaAll.reads I g r'
    exact ⟨as, .tuple ho hc hd (by simpa using ra), na⟩
  | _, _, .dct (a := a) h _, u, r => by
    cases r
    obtain ⟨_, hn, vs, kv, o, es, ep, ho, hx, hd, hk, hp, _⟩ := I.hok _ _ h
    cases kv
    have he : es.toList = [] := by cases z : es.toList with | nil => rfl | cons x l => rw [z] at hp; cases hp
    refine ⟨a :: ([] ++ []), .dict (kvs := []) ho hx.1 hd (by rw [he]; exact .nil) (by rw [he]; exact .nil), fun z => ?_⟩
    rcases List.mem_cons.mp z with z | z
    · rw [← z] at hn
      simp at hn
    · simp at z
theorem DaAll.reads {X : Cx} {pins : List (Addr × Obj)} {σ : L2.St} {H : Hp} {s : Shared} {ok : Addr → Prop} (I : L2.Inv X pins σ H s) : ∀ {ds : List PyData} {vs : List V}, DaAll X.K ok H vs ds → ∀ {us : List Value}, Vals vs us → ∃ as, ReadsAll s.heap us ds as ∧ sysModules ∉ as
  | _, _, .nil, us, r => by cases r; exact ⟨_, .nil, by simp⟩
  | _, _, .cons a b, us, r => by
    cases r with
    | cons r1 r2 =>
      obtain ⟨as, ra, na⟩ := Da.reads I a r1
      obtain ⟨bs, rb, nb⟩ := DaAll.reads I b r2
      exact ⟨as ++ bs, .cons ra rb, fun z => by rcases List.mem_append.mp z with z | z; exact na z; exact nb z⟩
end
end Ml
namespace Ml
open PySem PySem.Spec PyProof.Rows L2
/-! ### repr of a value of any kind -/
/-! ### how large values are -/
mutual
def wt : PyData → Nat
  | .none => 4
  | .bool _ => 5
  | .int _ => 45
  | .str x => (reprText x).length
  | .list ds => wtAll ds + 3
  | .tuple ds => wtAll ds + 3
  | .dict _ => 5
def wtAll : List PyData → Nat
  | [] => 0
  | d :: ds => wt d + 2 + wtAll ds
end
/-- ints up to B, at most n deep -/
def Sz (B : Nat) : Nat → PyData → Prop
  | _, .none => True
  | _, .bool _ => True
  | _, .int i => i.natAbs ≤ B
  | _, .str x => True
  | n + 1, .list ds => ∀ d ∈ ds, Sz B n d
  | n + 1, .tuple ds => ∀ d ∈ ds, Sz B n d
  | n + 1, .dict [] => True
  | _, _ => False
theorem Sz.mono {B C : Nat} (hB : B ≤ C) : ∀ {n m : Nat} {d : PyData}, n ≤ m → Sz B n d → Sz C m d
  | n, m, .none, _, _ => by cases m <;> exact trivial
  | n, m, .bool _, _, _ => by cases m <;> exact trivial
  | n, m, .int i, _, h => by
    have h' : i.natAbs ≤ B := by cases n <;> exact h
    have : i.natAbs ≤ C := Nat.le_trans h' hB
    cases m <;> exact this
  | n, m, .str x, _, h => by cases m <;> exact trivial
  | 0, m, .list ds, _, h => h.elim
  | 0, m, .tuple ds, _, h => h.elim
  | 0, m, .dict [], _, h => h.elim
  | 0, m, .dict (_ :: _), _, h => h.elim
  | n + 1, m + 1, .list ds, hm, h => fun d hd => Sz.mono hB (by omega) (h d hd)
  | n + 1, m + 1, .tuple ds, hm, h => fun d hd => Sz.mono hB (by omega) (h d hd)
  | n + 1, m + 1, .dict [], _, h => trivial
  | n + 1, m + 1, .dict (_ :: _), _, h => h.elim
  | n + 1, 0, _, hm, _ => absurd hm (by omega)
theorem Sz.int {B : Nat} {n : Nat} {i : Int} (h : i.natAbs ≤ B) : Sz B n (.int i) := by cases n <;> exact h
theorem Sz.bool {B : Nat} {n : Nat} (b : Bool) : Sz B n (.bool b) := by cases n <;> exact trivial
theorem Sz.none {B : Nat} {n : Nat} : Sz B n .none := by cases n <;> exact trivial
theorem Sz.str {B : Nat} {n : Nat} {x : Str} : Sz B n (.str x) := by cases n <;> exact trivial
theorem sz_depthAll {B n : Nat} (ih : ∀ d, Sz B n d → d.depth ≤ n) : ∀ ds : List PyData, (∀ d ∈ ds, Sz B n d) → PyData.depthAll ds ≤ n
  | [], _ => by simp [PyData.depthAll]
  | d :: ds, h => by
    have h1 := ih d (h d List.mem_cons_self)
    have h2 := sz_depthAll ih ds fun e he => h e (List.mem_cons_of_mem _ he)
    simp only [PyData.depthAll]
    omega
theorem Sz.depth {B : Nat} : ∀ {n : Nat} (d : PyData), Sz B n d → d.depth ≤ n
  | n, .none, _ => by simp [PyData.depth]
  | n, .bool _, _ => by simp [PyData.depth]
  | n, .int _, _ => by simp [PyData.depth]
  | n, .str _, _ => by simp [PyData.depth]
  | 0, .list ds, h => h.elim
  | 0, .tuple ds, h => h.elim
  | 0, .dict [], h => h.elim
  | 0, .dict (_ :: _), h => h.elim
  | n + 1, .list ds, h => by
    have := sz_depthAll (fun d => Sz.depth d) ds h
    simp only [PyData.depth]
    omega
  | n + 1, .tuple ds, h => by
    have := sz_depthAll (fun d => Sz.depth d) ds h
    simp only [PyData.depth]
    omega
  | n + 1, .dict [], _ => Nat.le_trans (by decide +kernel : PyData.depth (.dict []) ≤ 1) (by omega)
  | n + 1, .dict (_ :: _), h => h.elim
/-! ### a tuple that is not empty -/
end Ml
namespace Ml
open PySem PySem.Spec PyProof.Rows L2
/-! ### written values: laid anew, at addresses that were free in H0 -/
mutual
inductive Fw (H0 H : Hp) : V → PyData → Prop
  | non : Fw H0 H .non .none
  | bl (b : Bool) : Fw H0 H (.bl b) (.bool b)
  | int (i : Int) : Fw H0 H (.int i) (.int i)
  | str (x : Str) : Fw H0 H (.str x) (.str x)
  | tup {a : Addr} {xs : List V} {ds : List PyData} : H a = some (.tup xs) → H0 a = none → FwAll H0 H xs ds → Fw H0 H (.ref a) (.tuple ds)
  | lst {a : Addr} {xs : List V} {ds : List PyData} : H a = some (.lst xs) → H0 a = none → a ≠ sysModules → FwAll H0 H xs ds → Fw H0 H (.ref a) (.list ds)
  | dct {a : Addr} : H a = some (.dK []) → H0 a = none → Fw H0 H (.ref a) (.dict [])
inductive FwAll (H0 H : Hp) : List V → List PyData → Prop
  | nil : FwAll H0 H [] []
  | cons {v : V} {vs : List V} {d : PyData} {ds : List PyData} : Fw H0 H v d → FwAll H0 H vs ds → FwAll H0 H (v :: vs) (d :: ds)
end
theorem FwAll.len {H0 H : Hp} : ∀ {ds : List PyData} {vs : List V}, FwAll H0 H vs ds → vs.length = ds.length
  | _, _, .nil => rfl
  | _, _, .cons _ b => by rw [List.length_cons, List.length_cons, b.len]
theorem FwAll.at {H0 H : Hp} : ∀ {ds : List PyData} {vs : List V}, FwAll H0 H vs ds → ∀ {i : Nat} {v : V}, vs[i]? = some v → ∃ d, ds[i]? = some d ∧ Fw H0 H v d
  | _, _, .nil, i, v, e => by simp at e
  | _, _, .cons a b, 0, v, e => by cases Option.some.inj e; exact ⟨_, rfl, a⟩
  | _, _, .cons a b, i + 1, v, e => FwAll.at b (i := i) (by simpa using e)
theorem FwAll.append {H0 H : Hp} : ∀ {ds es : List PyData} {vs us : List V}, FwAll H0 H vs ds → FwAll H0 H us es → FwAll H0 H (vs ++ us) (ds ++ es)
  | _, _, _, _, .nil, h => h
  | _, _, _, _, .cons a b, h => .cons a (FwAll.append b h)
/-! ### the readings of written values -/
/-! ### written values, part by part: only the value is in the reading -/
end Ml
namespace Ml
open PySem PySem.Spec PyProof.Rows L2
/-! equal tables, equal data -/
theorem eqvAll_rows : ∀ (a b : List (List Int)), PyData.eqvAll (a.map rowD) (b.map rowD) = decide (a = b)
  | [], [] => by simp [PyData.eqvAll]
  | [], _ :: _ => by simp [PyData.eqvAll]
  | _ :: _, [] => by simp [PyData.eqvAll]
  | x :: a, y :: b => by
    rw [List.map_cons, List.map_cons]
    unfold PyData.eqvAll
    rw [eqvAll_rows a b]
    have e : PyData.eqv (rowD x) (rowD y) = decide (x = y) := eqv_tup x y
    rw [e]
    by_cases h1 : x = y <;> by_cases h2 : a = b <;> simp [h1, h2]
theorem eqv_tabs (a b : List (List Int)) : PyData.eqv (tabD a) (tabD b) = decide (a = b) := by
  unfold tabD
  unfold PyData.eqv
  exact eqvAll_rows a b
end Ml
namespace Ml
open PySem PySem.Spec PyProof.Rows L2
/-! ### values of any kind: what laws that draw them share -/
def okA (d r : Addr) : Addr → Prop := fun a => a ≠ d ∧ a ≠ r
theorem nx_mk {T : L2.St → Hp → Prop} {rt : VK} {bk ct : L2.St → Hp → Prop} {σ : L2.St} {H : Hp} (h : T σ H) : Ends.nx { nx := T, rt := rt, bk := bk, ct := ct } σ H := h
def isT : PyData → Bool
  | .tuple _ => true
  | _ => false
def isI : PyData → Bool
  | .int _ => true
  | .bool _ => true
  | _ => false
def isB : PyData → Bool
  | .bool _ => true
  | _ => false
theorem kt_tup (d : PyData) : kitB (tyN d) "tuple" = some (isT d) := by cases d <;> exact kit_tup _
theorem kt_int (d : PyData) : kitB (tyN d) "int" = some (isI d) := by cases d <;> exact kit_int _
theorem kt_bool (d : PyData) : kitB (tyN d) "bool" = some (isB d) := by cases d <;> exact kit_bool _
theorem isT_yes {x : PyData} (h : isT x = true) : ∃ ds, x = .tuple ds := by
  cases x <;> first | exact ⟨_, rfl⟩ | cases h
theorem isI_yes : ∀ {x : PyData}, isI x = true → isB x = false → ∃ i, x = .int i
  | .int i, _, _ => ⟨i, rfl⟩
  | .bool _, _, g => by simp [isB] at g
  | .none, h, _ => by simp [isI] at h
  | .str _, h, _ => by simp [isI] at h
  | .list _, h, _ => by simp [isI] at h
  | .tuple _, h, _ => by simp [isI] at h
  | .dict _, h, _ => by simp [isI] at h
/-! ### repr of a value, whatever is known of its places -/
/-! ### faults of values -/
/-! ### readings that yield values of any kind -/
def GV (K : PySem.W.Frag) (d r : Addr) (B k W : Nat) (H : Hp) (v : V) : Prop := ∃ x, Da K (okA d r) H v x ∧ Sz B k x ∧ wt x ≤ W
/-- a tuple: its parts, how large they are -/
def GT (K : PySem.W.Frag) (d r : Addr) (B k W m : Nat) (H : Hp) (v : V) : Prop := ∃ a xs ds, v = .ref a ∧ SqT K H a xs ∧ DaAll K (okA d r) H xs ds ∧ (∀ y ∈ ds, Sz B k y) ∧ wtAll ds ≤ W ∧ ds.length ≤ m
section
variable {K : PySem.W.Frag} {d c r : Addr} {B k W m B' k' W' m' : Nat} {H H' : Hp} {v : V} {n : Nat}
theorem GV.same (h : GV K d r B k W H v) (e : Sm H H') : GV K d r B k W H' v := by
  obtain ⟨x, a, b, w⟩ := h
  exact ⟨x, a.same e, b, w⟩
theorem GV.kp (D : Dr H d c r n) (e : Kp d r H H') (h : GV K d r B k W H v) : GV K d r B k W H' v := by
  obtain ⟨x, a, b, z⟩ := h
  exact ⟨x, a.kp (fun _ h => h) D e, b, z⟩
theorem GV.mono (h : GV K d r B k W H v) (hB : B ≤ B') (hk : k ≤ k') (hW : W ≤ W') : GV K d r B' k' W' H v := by
  obtain ⟨x, a, b, z⟩ := h
  exact ⟨x, a, b.mono hB hk, by omega⟩
theorem GT.same (h : GT K d r B k W m H v) (e : Sm H H') : GT K d r B k W m H' v := by
  obtain ⟨a, xs, ds, h1, h2, h3, h4⟩ := h
  exact ⟨a, xs, ds, h1, e.sqT h2, h3.same e, h4⟩
theorem GT.kp (D : Dr H d c r n) (e : Kp d r H H') (h : GT K d r B k W m H v) : GT K d r B k W m H' v := by
  obtain ⟨a, xs, ds, h1, h2, h3, h4⟩ := h
  exact ⟨a, xs, ds, h1, D.kpT e h2, h3.kp (fun _ h => h) D e, h4⟩
theorem GT.mono (h : GT K d r B k W m H v) (hB : B ≤ B') (hk : k ≤ k') (hW : W ≤ W') (hm : m ≤ m') : GT K d r B' k' W' m' H v := by
  obtain ⟨a, xs, ds, h1, h2, h3, h4, h5, h6⟩ := h
  exact ⟨a, xs, ds, h1, h2, h3, fun y hy => (h4 y hy).mono hB hk, by omega, by omega⟩
end
/-- what stays good whatever is drawn and laid anew -/
def Sta (d c r : Addr) (G : Hp → V → Prop) : Prop := ∀ n H H' v, Dr H d c r n → Kp d r H H' → G H v → G H' v
/-- a reading that yields a good value and draws at most k times -/
def GE (d c r : Addr) (J : L2.St → Hp → Prop) (L k : Nat) (G : Hp → V → Prop) (te : TE) : Prop :=
  ∀ n σ H (Q : VK), n + k ≤ L → Dr H d c r n → J σ H → (∀ v H', Kp d r H H' → Dr H' d c r (n + k) → J σ H' → G H' v → Q v H') → te σ H Q
def GA (d c r : Addr) (J : L2.St → Hp → Prop) (L k m : Nat) (G : Hp → V → Prop) (ta : TA) : Prop :=
  ∀ n σ H (Q : List V → Hp → Prop), n + k ≤ L → Dr H d c r n → J σ H → (∀ vs H', Kp d r H H' → Dr H' d c r (n + k) → J σ H' → vs.length = m → (∀ v ∈ vs, G H' v) → Q vs H') → ta σ H Q
/-- a list that is none of the drawing's, of good values -/
structure LV (d r : Addr) (G : Hp → V → Prop) (H : Hp) (l : Addr) (xs : List V) : Prop where
  at_ : H l = some (.lst xs)
  nd : l ≠ d
  nr : l ≠ r
  good : ∀ v ∈ xs, G H v
section
variable {K : PySem.W.Frag} {d c r : Addr} {J : L2.St → Hp → Prop} {L B k W m : Nat} {G : Hp → V → Prop}
theorem LV.kp (hG : Sta d c r G) {n : Nat} {H H' : Hp} {l : Addr} {xs : List V} (h : LV d r G H l xs) (D : Dr H d c r n) (e : Kp d r H H') : LV d r G H' l xs := ⟨e _ _ h.at_ h.nd h.nr, h.nd, h.nr, fun v hv => hG _ _ _ _ D e (h.good v hv)⟩
theorem GE.mono {G' : Hp → V → Prop} {te : TE} {k' : Nat} (h : GE d c r J L k G te) (hk : k ≤ k') (g : ∀ H v, G H v → G' H v) : GE d c r J L k' G' te := fun n σ H Q hn D hJ q => h n σ H Q (by omega) D hJ fun v H' a b e f => q v H' a (b.mono (by omega)) e (g _ _ f)
end
/-! ### the same as statements -/
section
variable {K : PySem.W.Frag} {d c r : Addr} {J : L2.St → Hp → Prop} {L B k W m : Nat} {G : Hp → V → Prop}
theorem gnm {i : Nat} {v : V} {σ : L2.St} {H : Hp} {Q : L2.St → Hp → Prop} (h : Q (σ.set i (some v)) H) : gName i v σ H Q := h
end
/-! ### the readings, one by one -/
section
variable {K : PySem.W.Frag} {d c r : Addr} {J : L2.St → Hp → Prop} {L B k W m B' k' W' m' k1 k2 W1 W2 m1 m2 : Nat} {G : Hp → V → Prop} {te te' : TE} {ta : TA} {tl th : TO}
/-- a slice's part -/
def GO (d c r : Addr) (J : L2.St → Hp → Prop) (tl : TO) : Prop := ∀ n σ H Q, Dr H d c r n → J σ H → (∀ l, Q l H) → tl σ H Q
end
mutual
theorem Da.okm {K : PySem.W.Frag} {ok ok' : Addr → Prop} {H : Hp} (e : ∀ a, ok a → ok' a) : ∀ {d : PyData} {v : V}, Da K ok H v d → Da K ok' H v d
  | _, _, .non => .non
  | _, _, .bl b => .bl b
  | _, _, .int i => .int i
  | _, _, .str x => .str x
  | _, _, .lst h o n g => .lst h (e _ o) n (DaAll.okm e g)
  | _, _, .tup h g => .tup h (DaAll.okm e g)
  | _, _, .dct h o => .dct h (e _ o)
theorem DaAll.okm {K : PySem.W.Frag} {ok ok' : Addr → Prop} {H : Hp} (e : ∀ a, ok a → ok' a) : ∀ {ds : List PyData} {vs : List V}, DaAll K ok H vs ds → DaAll K ok' H vs ds
  | _, _, .nil => .nil
  | _, _, .cons a b => .cons (Da.okm e a) (DaAll.okm e b)
end
def allOk : Addr → Prop := fun _ => True
theorem Da.all {K : PySem.W.Frag} {ok : Addr → Prop} {H : Hp} {d : PyData} {v : V} (h : Da K ok H v d) : Da K allOk H v d := h.okm fun _ _ => trivial
/-- lists that were there in H0 -/
def okH (ok : Addr → Prop) (H0 : Hp) : Addr → Prop := fun a => ok a ∧ H0 a ≠ none
theorem Da.weak {K : PySem.W.Frag} {ok : Addr → Prop} {H0 H : Hp} {d : PyData} {v : V} (h : Da K (okH ok H0) H v d) : Da K ok H v d := h.okm fun _ z => z.1
theorem DaAll.weak {K : PySem.W.Frag} {ok : Addr → Prop} {H0 H : Hp} {d : List PyData} {v : List V} (h : DaAll K (okH ok H0) H v d) : DaAll K ok H v d := h.okm fun _ z => z.1
theorem DaAll.snoc {K : PySem.W.Frag} {ok : Addr → Prop} {H : Hp} {vs : List V} {ds : List PyData} {v : V} {d : PyData} (h : DaAll K ok H vs ds) (g : Da K ok H v d) : DaAll K ok H (vs ++ [v]) (ds ++ [d]) := h.append (.one g)
theorem lt_line {n : Nat} (h : n ≤ 1000000) : n < sizeLine := by rw [sizeLine_eq]; omega
/-- t[-1] of a tuple that is not empty -/
theorem atI_lastN {xs : List V} {m : Nat} {v : V} (h : xs.length = m + 1) (e : xs[m]? = some v) : atI xs (-1) = some v := by
  have e2 : ixN xs.length (-1) = some m := by
    rw [h]
    unfold ixN
    rw [if_neg (by omega), if_pos (by omega)]
    congr 1
    omega
  unfold atI
  rw [e2]
  exact e
/-! ### a list that is not empty -/
def rNeNilL (K : PySem.W.Frag) : R2 := fun x y H Q => ∃ a b xs, x = .ref a ∧ y = .ref b ∧ SqL K H a xs ∧ SqL K H b [] ∧ Q (.bl (!decide (xs = []))) H
theorem plain_isl {h : Heap} {a : Addr} {its : Array Value} (p : PlainL h a its) : h.IsList a its := by
  obtain ⟨o, n, h1, h2, _, h3⟩ := p
  exact ⟨o, h1, h2, n, h3⟩
theorem op_neNilL {X : Cx} (hu : X.A.units + 64 < cLine) : OpR X (compareOp .NotEq) (rNeNilL X.K) := by
  intro pins s σ H x y v u Q I r1 r2 h
  obtain ⟨a, b, xs, rfl, rfl, h1, h2, q⟩ := h
  cases r1
  cases r2
  obtain ⟨its, ri, pi, _⟩ := I.list h1
  obtain ⟨its2, ri2, pi2, _⟩ := I.list h2
  cases ri2
  have hl := ri.length
  cases xs with
  | nil =>
    cases ri
    refine SeqAt.RcNeAt.lists (e := fun _ => true) (plain_isl pi) (plain_isl pi2) rfl (by omega) (fun j _ h2 => absurd h2 (by simp)) X.prog X.w _ _ ?_
    exact ⟨.bl false, H, I, rfl, q⟩
  | cons x l =>
    cases ri with
    | cons r1 r2 =>
      refine SeqAt.RcNeAt.lists_lengths (plain_isl pi) (plain_isl pi2) (by simp) (by omega) X.prog X.w _ _ ?_
      exact ⟨.bl true, H, I, rfl, q⟩
end Ml
namespace Ml
open PySem PySem.Spec PyProof.Rows L2
/-! ### data without lists; comprehensions that draw -/
def noL : Addr → Prop := fun _ => False
section
variable {K : PySem.W.Frag} {d c r D : Addr} {H H' H1 Hy H4 : Hp}
theorem DaAll.nst {ys zs : List V} {ds : List PyData} {vs : List V} (h : DaAll K Ml.noL H vs ds) (hl : H D = some (.lst ys)) : DaAll K Ml.noL (upd H D (.lst zs)) vs ds :=
  h.to (fun a o e z => z.elim) fun a xs e => sqT_upd hl e
theorem Da.nst {ys zs : List V} {ds : PyData} {vs : V} (h : Da K Ml.noL H vs ds) (hl : H D = some (.lst ys)) : Da K Ml.noL (upd H D (.lst zs)) vs ds :=
  h.to (fun a o e z => z.elim) fun a xs e => sqT_upd hl e
theorem DaAll.nkp {n : Nat} {ds : List PyData} {vs : List V} (h : DaAll K Ml.noL H vs ds) (g : Dr H d c r n) (e : Kp d r H H') : DaAll K Ml.noL H' vs ds := h.kp (fun _ z => z.elim) g e
/-- what a comprehension over j items has collected at D; it drew k times for each -/
structure CP (K : PySem.W.Frag) (d c r : Addr) (H1 : Hp) (D : Addr) (n k : Nat) (Pd : Nat → PyData → Prop) (j : Nat) (Hy : Hp) : Prop where
  ex : ∃ ms ds, Hy D = some (.lst ms) ∧ DaAll K Ml.noL Hy ms ds ∧ ds.length = j ∧ ∀ i y, ds[i]? = some y → Pd i y
  dr : Dr Hy d c r (n + k * j)
  kp : Kp d r H1 Hy
variable {n k : Nat} {Pd : Nat → PyData → Prop} {j : Nat}
theorem CP.init (g : Dr H1 d c r n) (hD : H1 D = none) : CP K d c r H1 D n k Pd 0 (upd H1 D (.lst [])) :=
  ⟨⟨[], [], upd_same, .nil, rfl, fun i y h => by simp at h⟩, g.new hD, Kp.new hD⟩
theorem CP.step (h : CP K d c r H1 D n k Pd j Hy) (g1 : Dr H1 d c r n) (hD : H1 D = none) (hj : j ≤ 1000) {y : V} {u : PyData} (e : Kp d r Hy H4) (g : Dr H4 d c r (n + k * j + k)) (a : Da K Ml.noL H4 y u) (p : Pd j u) :
    ∃ acc, H4 D = some (.lst acc) ∧ acc.length < sizeLine ∧ CP K d c r H1 D n k Pd (j + 1) (upd H4 D (.lst (acc ++ [y]))) := by
  obtain ⟨ms, ds, h1, h2, h3, h4⟩ := h.ex
  have nD := g1.ne hD
  have h1' := e _ _ h1 nD.1 nD.2.2
  have hl := h2.len
  refine ⟨ms, h1', lt_line (by omega), ⟨⟨ms ++ [y], ds ++ [u], upd_same, ((h2.nkp h.dr e).append (.one a)).nst h1', by rw [List.length_append, h3]; rfl, fun i z hz => ?_⟩, ?_, fun b o q q1 q2 => ?_⟩⟩
  · by_cases hi : i < ds.length
    · rw [List.getElem?_append_left hi] at hz
      exact h4 i z hz
    · rw [List.getElem?_append_right (by omega)] at hz
      cases e2 : i - ds.length with
      | zero =>
        rw [e2] at hz
        cases Option.some.inj hz
        obtain rfl : i = j := by omega
        exact p
      | succ q => rw [e2] at hz; simp at hz
  · rw [Nat.mul_succ, ← Nat.add_assoc]
    exact g.upd nD.1 nD.2.1 nD.2.2
  · rw [upd_ne (ne_of_none q hD)]
    exact e b o (h.kp b o q q1 q2) q1 q2
/-- tuple(..) of it -/
theorem CP.tuple (h : CP K d c r H1 D n k Pd j Hy) {Q : VK} (q : ∀ (p : Addr) (ds : List PyData) (H' : Hp), Da K Ml.noL H' (.ref p) (.tuple ds) → ds.length = j → (∀ i y, ds[i]? = some y → Pd i y) → Dr H' d c r (n + k * j) → Kp d r H1 H' → Q (.ref p) H') :
    ∃ p ys, ([V.ref D] : List V) = [.ref p] ∧ ((SqL K Hy p ys ∧ ∀ l, Hy l = none → Q (.ref l) (upd Hy l (.tup ys))) ∨ (SqT K Hy p ys ∧ Q (.ref p) Hy)) := by
  obtain ⟨ms, ds, h1, h2, h3, h4⟩ := h.ex
  refine ⟨D, ms, rfl, .inl ⟨SqL.of h1, fun l hl => ?_⟩⟩
  have s := Sm.new (o := .tup ms) hl
  exact q l ds _ (.tup (SqT.of upd_same) (h2.same s)) h3 h4 (h.dr.same s) (h.kp.trans s.kp)
end
end Ml
namespace Ml
open PySem PySem.Spec PyProof.Rows L2
/-! ### shortest paths, layer by layer -/
inductive Lx : List Nat → List Nat → Prop
  | lt {a b : Nat} {p q : List Nat} : a < b → Lx (a :: p) (b :: q)
  | eq {a : Nat} {p q : List Nat} : Lx p q → Lx (a :: p) (a :: q)
theorem Lx.app {p q : List Nat} (h : Lx p q) (r s : List Nat) : Lx (p ++ r) (q ++ s) := by
  induction h with
  | lt h => exact .lt h
  | eq _ ih => exact .eq ih
theorem Lx.snoc {x y : Nat} (h : x < y) : ∀ p : List Nat, Lx (p ++ [x]) (p ++ [y])
  | [] => .lt h
  | _ :: p => .eq (Lx.snoc h p)
theorem Lx.trans {p q r : List Nat} (h : Lx p q) (g : Lx q r) : Lx p r := by
  induction h generalizing r with
  | lt h =>
    cases g with
    | lt g => exact .lt (Nat.lt_trans h g)
    | eq g => exact .lt h
  | eq _ ih =>
    cases g with
    | lt g => exact .lt g
    | eq g => exact .eq (ih g)
def lst (p : List Nat) : Nat := p.getLastD 0
theorem lst_snoc (p : List Nat) (x : Nat) : lst (p ++ [x]) = x := by simp [lst, List.getLastD_eq_getLast?]
theorem lst_some {p : List Nat} (h : p ≠ []) : p.getLast? = some (lst p) := by
  rw [List.getLast?_eq_some_getLast h]
  simp [lst, List.getLastD_eq_getLast?, List.getLast?_eq_some_getLast h]
section
variable {n : Nat} {f : Nat → Nat → Int} {h : Int} {i : Nat}
def frsh (n : Nat) (f : Nat → Nat → Int) (h : Int) (p : List Nat) (seen : List Nat) : List Nat := (List.range n).filter fun x => decide (f (lst p) x ≤ h) && decide (x ∉ seen)
theorem mem_frsh {p seen : List Nat} {x : Nat} : x ∈ frsh n f h p seen ↔ x < n ∧ f (lst p) x ≤ h ∧ x ∉ seen := by
  unfold frsh
  rw [List.mem_filter, List.mem_range, Bool.and_eq_true, decide_eq_true_iff, decide_eq_true_iff]
theorem frsh_nd (p seen : List Nat) : (frsh n f h p seen).Nodup := List.Pairwise.filter _ List.nodup_range
theorem frsh_asc (p seen : List Nat) : (frsh n f h p seen).Pairwise (· < ·) := List.Pairwise.filter _ List.pairwise_lt_range
def layer (n : Nat) (f : Nat → Nat → Int) (h : Int) : List (List Nat) → List Nat → List (List Nat)
  | [], _ => []
  | p :: ps, seen => ((frsh n f h p seen).map fun x => p ++ [x]) ++ layer n f h ps (seen ++ frsh n f h p seen)
theorem lst_kids (p : List Nat) (l : List Nat) : (l.map fun x => p ++ [x]).map lst = l := by
  rw [List.map_map]
  conv => rhs; rw [← List.map_id l]
  exact List.map_congr_left fun x _ => lst_snoc p x
theorem layer_mem : ∀ (L : List (List Nat)) (seen : List Nat) (c : List Nat), c ∈ layer n f h L seen → ∃ L1 p L2 x, L = L1 ++ p :: L2 ∧ c = p ++ [x] ∧ x < n ∧ f (lst p) x ≤ h ∧ x ∉ seen ∧ ∀ q ∈ L1, ¬ f (lst q) x ≤ h
  | [], _, c, hc => by simp [layer] at hc
  | p :: ps, seen, c, hc => by
    rcases List.mem_append.mp (show c ∈ ((frsh n f h p seen).map fun x => p ++ [x]) ++ layer n f h ps (seen ++ frsh n f h p seen) from hc) with z | z
    · obtain ⟨x, hx, rfl⟩ := List.mem_map.mp z
      obtain ⟨h1, h2, h3⟩ := mem_frsh.mp hx
      exact ⟨[], p, ps, x, rfl, rfl, h1, h2, h3, fun q hq => by simp at hq⟩
    · obtain ⟨L1, q, L2, x, e, rfl, h1, h2, h3, h4⟩ := layer_mem ps _ c z
      rw [List.mem_append, not_or] at h3
      refine ⟨p :: L1, q, L2, x, by rw [e]; rfl, rfl, h1, h2, h3.1, fun r hr => ?_⟩
      rcases List.mem_cons.mp hr with y | y
      · subst y
        exact fun g => h3.2 (mem_frsh.mpr ⟨h1, g, h3.1⟩)
      · exact h4 r y
theorem layer_cov : ∀ (L : List (List Nat)) (seen : List Nat) (p : List Nat), p ∈ L → ∀ x, x < n → f (lst p) x ≤ h → x ∈ seen ∨ x ∈ (layer n f h L seen).map lst
  | [], _, p, hp, _, _, _ => by simp at hp
  | q :: ps, seen, p, hp, x, hx, hf => by
    show x ∈ seen ∨ x ∈ (((frsh n f h q seen).map fun x => q ++ [x]) ++ layer n f h ps (seen ++ frsh n f h q seen)).map lst
    rw [List.map_append, lst_kids, List.mem_append]
    rcases List.mem_cons.mp hp with y | y
    · subst y
      by_cases hs : x ∈ seen
      · exact .inl hs
      · exact .inr (.inl (mem_frsh.mpr ⟨hx, hf, hs⟩))
    · rcases layer_cov ps (seen ++ frsh n f h q seen) p y x hx hf with z | z
      · rcases List.mem_append.mp z with z | z
        · exact .inl z
        · exact .inr (.inl z)
      · exact .inr (.inr z)
theorem layer_nd : ∀ (L : List (List Nat)) (seen : List Nat), seen.Nodup → (seen ++ (layer n f h L seen).map lst).Nodup
  | [], seen, hs => by simpa [layer] using hs
  | q :: ps, seen, hs => by
    show (seen ++ (((frsh n f h q seen).map fun x => q ++ [x]) ++ layer n f h ps (seen ++ frsh n f h q seen)).map lst).Nodup
    rw [List.map_append, lst_kids, ← List.append_assoc]
    refine layer_nd ps _ ?_
    rw [List.nodup_append]
    exact ⟨hs, frsh_nd _ _, fun a ha b hb e => (mem_frsh.mp hb).2.2 (e ▸ ha)⟩
theorem layer_srt : ∀ (L : List (List Nat)) (seen : List Nat), L.Pairwise Lx → (layer n f h L seen).Pairwise Lx
  | [], _, _ => .nil
  | p :: ps, seen, hs => by
    obtain ⟨h1, h2⟩ := List.pairwise_cons.mp hs
    show (((frsh n f h p seen).map fun x => p ++ [x]) ++ layer n f h ps (seen ++ frsh n f h p seen)).Pairwise Lx
    rw [List.pairwise_append]
    refine ⟨List.pairwise_map.mpr ((frsh_asc p seen).imp fun hab => Lx.snoc hab p), layer_srt ps _ h2, fun a ha b hb => ?_⟩
    obtain ⟨x, _, rfl⟩ := List.mem_map.mp ha
    obtain ⟨L1, q, L2, y, e, rfl, _⟩ := layer_mem ps _ b hb
    exact (h1 q (by rw [e]; simp)).app _ _
theorem layer_skip : ∀ (A L : List (List Nat)) (seen : List Nat), (∀ p ∈ A, frsh n f h p seen = []) → layer n f h (A ++ L) seen = layer n f h L seen
  | [], _, _, _ => rfl
  | p :: A, L, seen, hA => by
    show ((frsh n f h p seen).map fun x => p ++ [x]) ++ layer n f h (A ++ L) (seen ++ frsh n f h p seen) = _
    rw [hA p (List.mem_cons_self ..), List.append_nil, List.map_nil, List.nil_append]
    exact layer_skip A L seen fun q hq => hA q (List.mem_cons_of_mem _ hq)
structure Gd (n : Nat) (f : Nat → Nat → Int) (h : Int) (i : Nat) (p : List Nat) : Prop where
  hd : p.head? = some i
  lt : ∀ x ∈ p, x < n
  st : Steps f h p
theorem Gd.ne {p : List Nat} (g : Gd n f h i p) : p ≠ [] := fun e => by
  have := g.hd
  rw [e] at this
  simp at this
theorem Gd.snoc {p : List Nat} {x : Nat} (g : Gd n f h i p) (hx : x < n) (hf : f (lst p) x ≤ h) : Gd n f h i (p ++ [x]) := by
  refine ⟨?_, fun y hy => ?_, fun m a b h1 h2 => ?_⟩
  · have hd := g.hd
    cases p with
    | nil => simp at hd
    | cons y r => simpa using hd
  · rcases List.mem_append.mp hy with z | z
    · exact g.lt y z
    · rw [List.mem_singleton.mp z]; exact hx
  · by_cases hl : m + 1 < p.length
    · rw [List.getElem?_append_left (by omega)] at h1
      rw [List.getElem?_append_left hl] at h2
      exact g.st m a b h1 h2
    · by_cases he : m + 1 = p.length
      · rw [List.getElem?_append_left (by omega)] at h1
        rw [List.getElem?_append_right (by omega), he, Nat.sub_self] at h2
        cases Option.some.inj h2
        have e := lst_some g.ne
        rw [List.getLast?_eq_getElem?, show p.length - 1 = m by omega, h1] at e
        cases Option.some.inj e
        exact hf
      · rw [List.getElem?_eq_none (by rw [List.length_append]; simp; omega)] at h2
        cases h2
/-- a good path is one item, or one that is longer by a step -/
theorem Gd.split {q : List Nat} (g : Gd n f h i q) : q = [i] ∨ ∃ r x, q = r ++ [x] ∧ Gd n f h i r ∧ x < n ∧ f (lst r) x ≤ h := by
  obtain ⟨r, x, rfl⟩ := split_last q g.ne
  by_cases hr : r = []
  · subst hr
    have := g.hd
    simp at this
    exact .inl (by rw [this]; rfl)
  · refine .inr ⟨r, x, rfl, ⟨?_, fun y hy => g.lt y (List.mem_append_left _ hy), fun m a b h1 h2 => ?_⟩, g.lt x (by simp), ?_⟩
    · have hd := g.hd
      cases r with
      | nil => exact absurd rfl hr
      | cons y s => simpa using hd
    · refine g.st m a b ?_ ?_
      · rw [List.getElem?_append_left (List.getElem?_eq_some_iff.mp h1).1]; exact h1
      · rw [List.getElem?_append_left (List.getElem?_eq_some_iff.mp h2).1]; exact h2
    · have hl : 0 < r.length := List.length_pos_iff.mpr hr
      have e := lst_some hr
      rw [List.getLast?_eq_getElem?] at e
      refine g.st (r.length - 1) _ _ ?_ ?_
      · rw [List.getElem?_append_left (by omega)]; exact e
      · rw [show r.length - 1 + 1 = r.length by omega, List.getElem?_append_right (Nat.le_refl _), Nat.sub_self]
        rfl
structure Bst (n : Nat) (f : Nat → Nat → Int) (h : Int) (i : Nat) (p : List Nat) : Prop where
  gd : Gd n f h i p
  mn : ∀ q, Gd n f h i q → lst q = lst p → p.length < q.length ∨ (p.length = q.length ∧ (p = q ∨ Lx p q))
structure Bfs (n : Nat) (f : Nat → Nat → Int) (h : Int) (i : Nat) (A L : List (List Nat)) (k : Nat) : Prop where
  nd : ((A ++ L).map lst).Nodup
  best : ∀ p ∈ A ++ L, Bst n f h i p
  nod : ∀ p ∈ A ++ L, p.Nodup ∧ ∀ x ∈ p, x ∈ (A ++ L).map lst
  len : ∀ p ∈ L, p.length = k + 1
  cl : ∀ p ∈ A, ∀ x, x < n → f (lst p) x ≤ h → x ∈ (A ++ L).map lst
  srt : L.Pairwise Lx
  near : ∀ q, Gd n f h i q → q.length ≤ k → lst q ∈ A.map lst
  root : i ∈ (A ++ L).map lst
theorem Bfs.start (hi : i < n) : Bfs n f h i [] [[i]] 0 := by
  have g1 : Gd n f h i [i] := ⟨rfl, fun x hx => by rw [List.mem_singleton.mp hx]; exact hi, fun m a b h1 h2 => by cases m <;> simp at h2⟩
  refine ⟨by simp, fun p hp => ?_, fun p hp => ?_, fun p hp => ?_, fun p hp => by simp at hp, by simp, fun q g hq => ?_, by simp [lst]⟩
  · simp at hp
    subst hp
    refine ⟨g1, fun q g e => ?_⟩
    have hl : 0 < q.length := List.length_pos_iff.mpr g.ne
    by_cases h1 : q.length = 1
    · refine .inr ⟨h1.symm, .inl ?_⟩
      match q, h1 with
      | [x], _ =>
        have := g.hd
        simp at this
        rw [this]
    · exact .inl (by show 1 < _; omega)
  · simp at hp
    subst hp
    exact ⟨by simp, fun x hx => by rw [List.mem_singleton.mp hx]; simp [lst]⟩
  · simp at hp
    subst hp
    rfl
  · exact absurd (List.length_pos_iff.mpr g.ne) (by omega)
theorem Bfs.next {A L : List (List Nat)} {k : Nat} (b : Bfs n f h i A L k) : Bfs n f h i (A ++ L) (layer n f h L ((A ++ L).map lst)) (k + 1) := by
  have near' : ∀ q, Gd n f h i q → q.length ≤ k + 1 → lst q ∈ (A ++ L).map lst := fun q g hq => by
    by_cases hk : q.length ≤ k
    · rw [List.map_append]
      exact List.mem_append_left _ (b.near q g hk)
    · rcases g.split with e | ⟨r, x, rfl, gr, hx, hf⟩
      · subst e
        exact b.root
      · rw [List.length_append] at hq hk
        have hq' : r.length + 1 ≤ k + 1 := hq
        have := b.near r gr (by omega)
        obtain ⟨p, hp, e⟩ := List.mem_map.mp this
        rw [lst_snoc]
        exact b.cl p hp x hx (by rw [e]; exact hf)
  have mem : ∀ c, c ∈ layer n f h L ((A ++ L).map lst) → ∃ L1 p L2 x, L = L1 ++ p :: L2 ∧ c = p ++ [x] ∧ x < n ∧ f (lst p) x ≤ h ∧ x ∉ (A ++ L).map lst ∧ ∀ q ∈ L1, ¬ f (lst q) x ≤ h := layer_mem _ _
  have inL : ∀ {p : List Nat}, p ∈ L → p ∈ A ++ L := fun hp => List.mem_append_right _ hp
  refine ⟨?_, fun c hc => ?_, fun c hc => ?_, fun c hc => ?_, fun p hp x hx hf => ?_, layer_srt _ _ b.srt, near', ?_⟩
  · rw [List.map_append]
    exact layer_nd _ _ b.nd
  · rcases List.mem_append.mp hc with z | z
    · exact b.best c z
    · obtain ⟨L1, p, L2, x, e, rfl, hx, hf, hs, hfirst⟩ := mem c z
      have hp : p ∈ L := by rw [e]; simp
      have gp := (b.best p (inL hp)).gd
      refine ⟨gp.snoc hx hf, fun q g eq => ?_⟩
      rw [lst_snoc] at eq
      have lp := b.len p hp
      have hq : ¬ q.length ≤ k + 1 := fun hq => hs (by rw [← eq]; exact near' q g hq)
      rw [List.length_append]
      by_cases hq2 : q.length = k + 2
      · refine .inr ⟨by show p.length + 1 = _; omega, ?_⟩
        rcases g.split with e1 | ⟨r, y, rfl, gr, hy, hfr⟩
        · rw [e1] at hq2
          simp at hq2
        · rw [lst_snoc] at eq
          subst eq
          rw [List.length_append] at hq2
          have hr : r.length = k + 1 := by
            have : r.length + 1 = k + 2 := hq2
            omega
          have hin := near' r gr (by omega)
          rw [List.map_append] at hin
          rcases List.mem_append.mp hin with z | z
          · obtain ⟨a, ha, ea⟩ := List.mem_map.mp z
            exact absurd (b.cl a ha y hy (by rw [ea]; exact hfr)) hs
          · obtain ⟨a, ha, ea⟩ := List.mem_map.mp z
            have hfa : f (lst a) y ≤ h := by rw [ea]; exact hfr
            have pa : p = a ∨ Lx p a := by
              rw [e] at ha
              rcases List.mem_append.mp ha with w | w
              · exact absurd hfa (hfirst a w)
              · rcases List.mem_cons.mp w with w | w
                · exact .inl w.symm
                · have := b.srt
                  rw [e, List.pairwise_append] at this
                  exact .inr ((List.pairwise_cons.mp this.2.1).1 a w)
            rcases (b.best a (inL ha)).mn r gr ea.symm with w | ⟨_, w⟩
            · have := b.len a ha
              omega
            · have pr : p = r ∨ Lx p r := by
                rcases pa with u | u <;> rcases w with v | v
                · exact .inl (u.trans v)
                · exact .inr (u ▸ v)
                · exact .inr (v ▸ u)
                · exact .inr (u.trans v)
              rcases pr with u | u
              · exact .inl (by rw [u])
              · exact .inr (u.app _ _)
      · exact .inl (by show p.length + 1 < _; omega)
  · rcases List.mem_append.mp hc with z | z
    · refine ⟨(b.nod c z).1, fun x hx => ?_⟩
      rw [List.map_append]
      exact List.mem_append_left _ ((b.nod c z).2 x hx)
    · obtain ⟨L1, p, L2, x, e, rfl, hx, hf, hs, _⟩ := mem c z
      have hp : p ∈ L := by rw [e]; simp
      obtain ⟨n1, n2⟩ := b.nod p (inL hp)
      refine ⟨?_, fun y hy => ?_⟩
      · rw [List.nodup_append]
        refine ⟨n1, by simp, fun a ha b' hb => ?_⟩
        rw [List.mem_singleton.mp hb]
        exact fun e => hs (e ▸ n2 a ha)
      · rw [List.map_append]
        rcases List.mem_append.mp hy with w | w
        · exact List.mem_append_left _ (n2 y w)
        · rw [List.mem_singleton.mp w]
          exact List.mem_append_right _ (List.mem_map.mpr ⟨_, z, lst_snoc _ _⟩)
  · obtain ⟨L1, p, L2, x, e, rfl, _⟩ := mem c hc
    rw [List.length_append, b.len p (by rw [e]; simp)]
    rfl
  · rw [List.map_append]
    rcases List.mem_append.mp hp with z | z
    · exact List.mem_append_left _ (b.cl p z x hx hf)
    · exact List.mem_append.mpr (layer_cov _ _ p z x hx hf)
  · rw [List.map_append]
    exact List.mem_append_left _ b.root
/-- where nothing is added, all is reached -/
theorem Bfs.done {A L : List (List Nat)} {k : Nat} (b : Bfs n f h i A L k) (e : layer n f h L ((A ++ L).map lst) = []) {j : Nat} (w : Wk f n h i j) : j ∈ (A ++ L).map lst := by
  induction w with
  | refl => exact b.root
  | @step x y _ hx hy hf ih =>
    obtain ⟨p, hp, ep⟩ := List.mem_map.mp ih
    rcases List.mem_append.mp hp with z | z
    · exact b.cl p z y hy (by rw [ep]; exact hf)
    · rcases layer_cov L ((A ++ L).map lst) p z y hy (by rw [ep]; exact hf) with v | v
      · exact v
      · rw [e] at v
        simp at v
theorem Bfs.few {A L : List (List Nat)} {k : Nat} (b : Bfs n f h i A L k) : (A ++ L).length ≤ n := by
  have := nodup_len n ((A ++ L).map lst) b.nd (fun x hx => by
    obtain ⟨p, hp, rfl⟩ := List.mem_map.mp hx
    have g := (b.best p hp).gd
    exact g.lt _ (List.mem_of_mem_getLast? (lst_some g.ne)))
  rwa [List.length_map] at this
/-- what all paths add is what the last ones add -/
theorem Bfs.all {A L : List (List Nat)} {k : Nat} (b : Bfs n f h i A L k) : layer n f h (A ++ L) ((A ++ L).map lst) = layer n f h L ((A ++ L).map lst) := by
  refine layer_skip A L _ fun p hp => ?_
  refine List.eq_nil_iff_forall_not_mem.mpr fun x hx => ?_
  obtain ⟨h1, h2, h3⟩ := mem_frsh.mp hx
  exact h3 (b.cl p hp x h1 h2)
theorem Bst.uniq {p q : List Nat} (hp : Bst n f h i p) (hq : Bst n f h i q) (e : lst p = lst q) : p = q := by
  have irr : ∀ {a : List Nat}, ¬ Lx a a := fun {a} g => by
    induction a with
    | nil => cases g
    | cons x r ih =>
      cases g with
      | lt g => exact Nat.lt_irrefl _ g
      | eq g => exact ih g
  rcases hp.mn q hq.gd e.symm with z | ⟨_, z⟩ <;> rcases hq.mn p hp.gd e with y | ⟨_, y⟩
  · omega
  · omega
  · omega
  · rcases z with z | z
    · exact z
    · rcases y with y | y
      · exact y.symm
      · exact absurd (z.trans y) irr
end
end Ml
namespace Ml
open PySem PySem.Spec PyProof.Rows L2
/-! ### name = {k: v for ..} -/
theorem dc_it {J : It} {n : Nat} {G : Hp → Prop} {Y : Nat → Hp → V → Hp → Prop} (w : Walk J n G Y) {g : TG} {tt : L2.TT} {tk tv : TE} {vs : List Nat} {σ : L2.St} {H1 : Hp} {D : Addr} {Qd : Hp → Prop} (Pv : Nat → Hp → Prop) (h0 : Pv 0 (upd H1 D (.dK []))) (hG : ∀ i H, i ≤ n → Pv i H → G H)
    (hs : ∀ i x H H', i < n → Pv i H → Y i H x H' → g x (wipe σ vs) H' fun σ2 H2 => wipe σ2 vs = wipe σ vs ∧ tt σ2 H2 fun b H3 =>
      if b = true then tk σ2 H3 fun y H4 => tv σ2 H4 fun z H5 => ∃ kvs k, y = kV k ∧ H5 D = some (.dK kvs) ∧ kvs.length < sizeLine ∧ Pv (i + 1) (upd H5 D (.dK (putK kvs k z))) else Pv (i + 1) H3) (hd : ∀ H, Pv n H → Qd H) :
    ∃ W : Nat → Nat → Hp → Prop, (∃ m, W 0 m (upd H1 D (.dK []))) ∧ ∀ i m H, W i m H →
      (J.stop i H ∧ Qd H) ∨ (J.go i H ∧ ∃ Nx : Hp → Prop, (∀ H', Nx H' → ∃ m', m' < m ∧ W (i + 1) m' H') ∧ ∀ x H', J.yld i H x H' → g x (wipe σ vs) H' fun σ2 H2 => wipe σ2 vs = wipe σ vs ∧ tt σ2 H2 fun b H3 =>
        if b = true then tk σ2 H3 fun y H4 => tv σ2 H4 fun z H5 => ∃ kvs k, y = kV k ∧ H5 D = some (.dK kvs) ∧ kvs.length < sizeLine ∧ Nx (upd H5 D (.dK (putK kvs k z))) else Nx H3) := by
  refine ⟨fun i m H => m = n - i ∧ i ≤ n ∧ Pv i H, ⟨n, by simp, Nat.zero_le _, h0⟩, ?_⟩
  rintro i m H ⟨rfl, hi, p⟩
  have q := hG i H hi p
  by_cases hlt : i < n
  · refine .inr ⟨w.goes i H hlt q, Pv (i + 1), fun H' p' => ⟨n - (i + 1), by omega, rfl, hlt, p'⟩, fun x H' y => hs i x H H' hlt p (w.yields i H x H' hlt q y)⟩
  · have e : i = n := by omega
    subst e
    exact .inl ⟨w.stops H q, hd H p⟩
/-! ### a dict of paths by their last items -/
abbrev nIv (os : List Nat) : List V := os.map fun i : Nat => V.int (i : Int)
def PD (K : PySem.W.Frag) (H : Hp) (kvs : List (Key × V)) (S : List (List Nat)) : Prop := kvs.length = S.length ∧ ∀ (i : Nat) kv p, kvs[i]? = some kv → S[i]? = some p → kv.1 = Sum.inl ((lst p : Nat) : Int) ∧ ∃ a, kv.2 = .ref a ∧ SqT K H a (nIv p)
theorem PD.same {K : PySem.W.Frag} {H H' : Hp} {kvs : List (Key × V)} {S : List (List Nat)} (h : PD K H kvs S) (e : Sm H H') : PD K H' kvs S :=
  ⟨h.1, fun i kv p a b => let ⟨h1, q, h2, h3⟩ := h.2 i kv p a b; ⟨h1, q, h2, e.sqT h3⟩⟩
theorem PD.nil {K : PySem.W.Frag} {H : Hp} : PD K H [] [] := ⟨rfl, fun i kv p a _ => by simp at a⟩
theorem PD.snoc {K : PySem.W.Frag} {H : Hp} {kvs : List (Key × V)} {S : List (List Nat)} {a : Addr} {p : List Nat} (h : PD K H kvs S) (hp : SqT K H a (nIv p)) : PD K H (kvs ++ [(Sum.inl ((lst p : Nat) : Int), .ref a)]) (S ++ [p]) := by
  refine ⟨by rw [List.length_append, List.length_append, h.1]; rfl, fun i kv q x y => ?_⟩
  by_cases hi : i < kvs.length
  · rw [List.getElem?_append_left hi] at x
    rw [List.getElem?_append_left (by rw [← h.1]; exact hi)] at y
    exact h.2 i kv q x y
  · rw [List.getElem?_append_right (by omega)] at x
    rw [List.getElem?_append_right (by rw [← h.1]; omega), ← h.1] at y
    have hx0 : i - kvs.length = 0 := by
      have := (List.getElem?_eq_some_iff.mp x).1
      simp at this
      omega
    rw [hx0] at x y
    cases Option.some.inj x
    cases Option.some.inj y
    exact ⟨rfl, a, rfl, hp⟩
theorem put_new {kvs : List (Key × V)} {k : Key} {v : V} (h : valV kvs k = none) : putK kvs k v = kvs ++ [(k, v)] := by
  unfold putK
  rw [if_neg]
  intro e
  obtain ⟨kv, h1, h2⟩ := List.any_eq_true.mp e
  unfold valV at h
  rw [Option.map_eq_none_iff, List.find?_eq_none] at h
  exact h kv h1 h2
theorem PD.take {K : PySem.W.Frag} {H : Hp} {kvs : List (Key × V)} {S : List (List Nat)} (h : PD K H kvs S) (m : Nat) : PD K H (kvs.take m) (S.take m) := by
  refine ⟨by rw [List.length_take, List.length_take, h.1], fun i kv p a b => ?_⟩
  rw [List.getElem?_take] at a b
  split at a
  · rename_i hi
    rw [if_pos hi] at b
    exact h.2 i kv p a b
  · cases a
end Ml
namespace Ml
open PySem PySem.Spec PyProof.Rows L2
theorem val_of_nd : ∀ {kvs : List (Key × V)}, (kvs.map (·.1)).Nodup → ∀ {i : Nat} {k : Key} {v : V}, kvs[i]? = some (k, v) → valV kvs k = some v ∧ valV (kvs.take i) k = none ∧ kvs.take (i + 1) = kvs.take i ++ [(k, v)]
  | [], _, i, k, v, h => by simp at h
  | kv :: kvs, hn, 0, k, v, h => by
    cases Option.some.inj h
    exact ⟨valV_pos rfl, rfl, rfl⟩
  | kv :: kvs, hn, i + 1, k, v, h => by
    obtain ⟨n1, n2⟩ := List.nodup_cons.mp (show (kv.1 :: kvs.map (·.1)).Nodup from hn)
    have h' : kvs[i]? = some (k, v) := by simpa using h
    obtain ⟨a, b, c⟩ := val_of_nd n2 h'
    have ne : ¬ kv.1 = k := fun e => n1 (by rw [e]; exact List.mem_map.mpr ⟨_, List.mem_of_getElem? h', rfl⟩)
    refine ⟨by rw [valV_neg ne]; exact a, ?_, ?_⟩
    · rw [List.take_succ_cons, valV_neg ne]
      exact b
    · rw [List.take_succ_cons, c]
      rfl
end Ml
namespace Ml
open PySem PySem.Spec PyProof.Rows L2
/-! ### items, paths: values of any kind -/
def isItm (n : Nat) : PyData → Bool
  | .int i => decide (0 ≤ i) && decide (i < (n : Int))
  | _ => false
theorem isItm_int {n : Nat} {x : PyData} (h : (isI x && !isB x) = false) : isItm n x = false := by
  cases x <;> first | rfl | cases h
def nD (l : List Nat) : List PyData := l.map fun i : Nat => .int (i : Int)
/-- t == () -/
def rEqNil (K : PySem.W.Frag) : R2 := fun x y H Q => ∃ a b xs, x = .ref a ∧ y = .ref b ∧ SqT K H a xs ∧ SqT K H b [] ∧ Q (.bl (decide (xs = []))) H
theorem op_eqNil {X : Cx} (hu : X.A.units + 64 < cLine) : OpR X (compareOp .Eq) (rEqNil X.K) := by
  intro pins s σ H x y v u Q I r1 r2 h
  obtain ⟨a, b, xs, rfl, rfl, h1, h2, q⟩ := h
  cases r1
  cases r2
  obtain ⟨its, ri, pi, _⟩ := I.tuple h1
  obtain ⟨its2, ri2, pi2, _⟩ := I.tuple h2
  cases ri2
  refine SeqAt.RcAt.tuples (e := fun _ => true) pi pi2 (by omega) (fun j _ h2 => absurd h2 (by simp)) X.prog X.w _ _ ?_
  refine ⟨.bl (decide (xs = [])), H, I, ?_, q⟩
  show Value.bool _ = Value.bool _
  congr 1
  cases xs with
  | nil =>
    cases ri
    rfl
  | cons x l =>
    cases ri
    simp
end Ml
namespace Ml
open PySem PySem.Spec PyProof.Rows L2
/-! ### lists of good values: by displays, concatenations and comprehensions -/
def GLs (d c r : Addr) (J : L2.St → Hp → Prop) (L k a m : Nat) (G : Hp → V → Prop) (te : TE) : Prop :=
  ∀ n σ H (Q : VK), n + k ≤ L → Dr H d c r n → J σ H → (∀ l xs H', Kp d r H H' → Dr H' d c r (n + k) → J σ H' → LV d r G H' l xs → a ≤ xs.length → xs.length ≤ m → Q (.ref l) H') → te σ H Q
/-- values without lists -/
def GVn (K : PySem.W.Frag) (B k W : Nat) (H : Hp) (v : V) : Prop := ∃ x, Da K noL H v x ∧ Sz B k x ∧ wt x ≤ W
/-- what holds whatever a list is made into -/
def StaS (G : Hp → V → Prop) : Prop := ∀ (H : Hp) (D : Addr) (ys zs : List V) (v : V), H D = some (.lst ys) → G H v → G (upd H D (.lst zs)) v
section
variable {K : PySem.W.Frag} {d c r : Addr} {J J' : L2.St → Hp → Prop} {L B k W a m k' a' m' W' B' k1 k2 : Nat} {G G' G0 : Hp → V → Prop} {te te' : TE} {ta : TA}
theorem GVn.mono {H : Hp} {v : V} (h : GVn K B k W H v) (hB : B ≤ B') (hk : k ≤ k') (hW : W ≤ W') : GVn K B' k' W' H v := by
  obtain ⟨x, a, b, z⟩ := h
  exact ⟨x, a, b.mono hB hk, by omega⟩
theorem GVn.same {H H' : Hp} {v : V} (h : GVn K B k W H v) (e : Sm H H') : GVn K B k W H' v := by
  obtain ⟨x, a, b⟩ := h
  exact ⟨x, a.same e, b⟩
theorem GLs.mono (h : GLs d c r J L k a m G te) (hk : k ≤ k') (ha : a' ≤ a) (hm : m ≤ m') (g : ∀ H v, G H v → G' H v) : GLs d c r J L k' a' m' G' te := fun n σ H Q hn D hJ q =>
  h n σ H Q (by omega) D hJ fun l xs H' b e j v l1 l2 => q l xs H' b (e.mono (by omega)) j ⟨v.at_, v.nd, v.nr, fun u hu => g _ _ (v.good u hu)⟩ (by omega) (by omega)
/-- what a comprehension has collected -/
structure CL (d c r : Addr) (H1 : Hp) (D : Addr) (G : Hp → V → Prop) (n k i : Nat) (Hx : Hp) : Prop where
  ex : ∃ xs, Hx D = some (.lst xs) ∧ xs.length = i ∧ ∀ v ∈ xs, G Hx v
  dr : Dr Hx d c r (n + k * i)
  kp : Kp d r H1 Hx
theorem CL.init {H1 : Hp} {D : Addr} {n : Nat} (g : Dr H1 d c r n) (hD : H1 D = none) : CL d c r H1 D G n k 0 (upd H1 D (.lst [])) :=
  ⟨⟨[], upd_same, rfl, fun v hv => by simp at hv⟩, g.new hD, Kp.new hD⟩
theorem CL.step (hG : Sta d c r G) (hS : StaS G) {H1 H4 Hx : Hp} {D : Addr} {n i : Nat} (h : CL d c r H1 D G n k i Hx) (g1 : Dr H1 d c r n) (hD : H1 D = none) (hi : i ≤ 1000) {y : V} (e : Kp d r Hx H4) (g : Dr H4 d c r (n + k * i + k)) (p : G H4 y) :
    ∃ acc, H4 D = some (.lst acc) ∧ acc.length < sizeLine ∧ CL d c r H1 D G n k (i + 1) (upd H4 D (.lst (acc ++ [y]))) := by
  obtain ⟨xs, h1, h2, h3⟩ := h.ex
  have nD := g1.ne hD
  have h1' := e _ _ h1 nD.1 nD.2.2
  refine ⟨xs, h1', lt_line (by omega), ⟨⟨xs ++ [y], upd_same, by rw [List.length_append, h2]; rfl, fun v hv => ?_⟩, ?_, fun b o q q1 q2 => ?_⟩⟩
  · refine hS _ _ _ _ _ h1' ?_
    rcases List.mem_append.mp hv with hv | hv
    · exact hG _ _ _ _ h.dr e (h3 v hv)
    · rw [List.mem_singleton.mp hv]; exact p
  · rw [Nat.mul_succ, ← Nat.add_assoc]
    exact g.upd nD.1 nD.2.1 nD.2.2
  · rw [upd_ne (ne_of_none q hD)]
    exact e b o (h.kp b o q q1 q2) q1 q2
end
end Ml
namespace Ml
open PySem PySem.Spec PyProof.Rows L2
/-! ### the least of some data -/
section
variable {X : Cx}
theorem vals_back : ∀ {ys : List V} {us : List Value}, Vals ys us → ∀ {i : Nat} {u : Value}, us[i]? = some u → ∃ y, ys[i]? = some y ∧ RelV y u
  | _, _, .nil, i, u, h => by simp at h
  | _, _, .cons r _, 0, u, h => by
    cases Option.some.inj h
    exact ⟨_, rfl, r⟩
  | _, _, .cons _ t, i + 1, u, h => by
    obtain ⟨y, h1, h2⟩ := vals_back t (i := i) (u := u) (by simpa using h)
    exact ⟨y, by simpa using h1, h2⟩
end
theorem lex_irr (O : PyProof.Rows.KeyOrd) : ∀ l : List O.α, PyProof.Rows.lexLt O l l = false
  | [] => by unfold PyProof.Rows.lexLt; rfl
  | x :: l => by rw [PyProof.Rows.lex_self]; exact lex_irr O l
theorem dataLt_irr (d : PyData) : PySem.W.dataLt d d = false := lex_irr _ _
theorem dataLt_asym {d e : PyData} (h : PySem.W.dataLt d e = true) : PySem.W.dataLt e d = false := by
  cases q : PySem.W.dataLt e d with
  | false => rfl
  | true =>
    have := PyProof.Rows.lex_trans _ _ _ h q
    rw [lex_irr] at this
    cases this
abbrev tupD (p : List Nat) : PyData := .tuple ((iL p).map PyData.int)
abbrev D3 (a : Int) (p : List Nat) : PyData := .tuple [.int a, .int (p.length : Int), tupD p]
theorem alike_ints : ∀ a b : List Int, PySem.W.alikeAll (a.map PyData.int) (b.map PyData.int) = true
  | [], b => by simp [PySem.W.alikeAll]
  | x :: a, [] => by simp [PySem.W.alikeAll]
  | x :: a, y :: b => by simp [PySem.W.alikeAll, PySem.W.alike, alike_ints a b]
end Ml
namespace Ml
open PySem PySem.Spec PyProof.Rows L2
section
variable {X : Cx}
abbrev InBlk (X : Cx) (scope : Scope) (J : Cx → Prop) : Prop := ∀ (s : Shared) (H : Hp) (C : Addr) (cl : List (PySem.Str × Addr)) (fp : List Addr), J (X.blk s H scope (compEnvC scope cl C X.env) fp)
end
end Ml
namespace Ml
open PySem PySem.Spec PyProof.Rows L2
/-! ### calls of defs that show something -/
theorem GOk.mono {P : Program} {w : World} {K : PySem.W.Frag} {mg : Str → Option Value} {base : Heap} {j k : Nat} {f : Addr} {fd : FuncData} {ps : List Str} {sp : Sp} (F : GOk P w K mg base j f fd ps sp) (h : j ≤ k) : GOk P w K mg base k f fd ps sp :=
  ⟨F.len, fun A outer s H args us vs Q E hg hr => F.go A outer s H args us vs Q E hg (hr.mono h)⟩
end Ml
namespace Ml
open PySem PySem.Spec PyProof.Rows L2
/-! ### groups -/
structure GrF (F : Nat → Nat → Int) (n : Nat) (l : Int) : Prop where
  self : ∀ i, i < n → F i i ≤ l
  sym : ∀ i j, F i j = F j i
  tri : ∀ i j k, i < n → j < n → k < n → F i j ≤ max (F i k) (F k j)
def grp (F : Nat → Nat → Int) (n : Nat) (l : Int) (i : Nat) : List Nat := (List.range n).filter fun j => decide (F i j ≤ l)
theorem mem_grp {F : Nat → Nat → Int} {n : Nat} {l : Int} {i j : Nat} : j ∈ grp F n l i ↔ j < n ∧ F i j ≤ l := by
  unfold grp
  rw [List.mem_filter, List.mem_range, decide_eq_true_iff]
section
variable {F : Nat → Nat → Int} {n : Nat} {l : Int}
theorem grp_self (G : GrF F n l) {i : Nat} (hi : i < n) : i ∈ grp F n l i := mem_grp.mpr ⟨hi, G.self i hi⟩
end
theorem grp_ne {F : Nat → Nat → Int} {n : Nat} {l : Int} (G : GrF F n l) {i : Nat} (hi : i < n) : grp F n l i ≠ [] := fun e => by
  have := grp_self G hi
  rw [e] at this
  cases this
end Ml
namespace Ml
open PySem PySem.Spec PyProof.Rows L2
/-! ### clusters -/
structure UlF (F : Nat → Nat → Int) (n : Nat) : Prop where
  diag : ∀ i, i < n → F i i = 0
  sym : ∀ i j, F i j = F j i
  tri : ∀ i j k, i < n → j < n → k < n → F i j ≤ max (F i k) (F k j)
  pos : ∀ i j, i < n → j < n → i ≠ j → 0 < F i j
theorem UlF.gr {F : Nat → Nat → Int} {n : Nat} (U : UlF F n) {l : Int} (h : 0 ≤ l) : GrF F n l := ⟨fun i hi => by rw [U.diag i hi]; exact h, U.sym, U.tri⟩
theorem UlF.nn {F : Nat → Nat → Int} {n : Nat} (U : UlF F n) {i j : Nat} (hi : i < n) (hj : j < n) : 0 ≤ F i j := by
  by_cases e : i = j
  · subst e
    rw [U.diag i hi]
    exact Int.le_refl _
  · exact Int.le_of_lt (U.pos i j hi hj e)
def Cl (F : Nat → Nat → Int) (n : Nat) (k : List Int) : Prop := ∃ i j, i < n ∧ j < n ∧ i ≠ j ∧ k = iL (grp F n (F i j) i)
section
variable {F : Nat → Nat → Int} {n : Nat}
theorem Cl.ne (U : UlF F n) {k : List Int} (h : Cl F n k) : k ≠ [] := by
  obtain ⟨i, j, hi, hj, _, rfl⟩ := h
  intro e
  have := grp_ne (U.gr (U.nn hi hj)) hi
  cases e2 : grp F n (F i j) i with
  | nil => exact this e2
  | cons a r => rw [e2] at e; cases e
end
/-! a walk, whatever is done at each turn -/
end Ml
namespace Ml
open PySem PySem.Spec PyProof.Rows L2
/-! values and what they are, place by place -/
def Als {α : Type} (R : V → α → Prop) (vs : List V) (xs : List α) : Prop := vs.length = xs.length ∧ ∀ (i : Nat) v x, vs[i]? = some v → xs[i]? = some x → R v x
theorem Als.nil {α : Type} {R : V → α → Prop} : Als R [] [] := ⟨rfl, fun i v x a _ => by simp at a⟩
theorem Als.append {α : Type} {R : V → α → Prop} {vs ws : List V} {xs ys : List α} (h : Als R vs xs) (g : Als R ws ys) : Als R (vs ++ ws) (xs ++ ys) := by
  refine ⟨by rw [List.length_append, List.length_append, h.1, g.1], fun i v x a b => ?_⟩
  by_cases hi : i < vs.length
  · rw [List.getElem?_append_left hi] at a
    rw [List.getElem?_append_left (by rw [← h.1]; exact hi)] at b
    exact h.2 i v x a b
  · rw [List.getElem?_append_right (by omega)] at a
    rw [List.getElem?_append_right (by rw [← h.1]; omega), ← h.1] at b
    exact g.2 _ v x a b
theorem Als.one {α : Type} {R : V → α → Prop} {v : V} {x : α} (h : R v x) : Als R [v] [x] := by
  refine ⟨rfl, fun i u y a b => ?_⟩
  cases i with
  | zero =>
    cases Option.some.inj a
    cases Option.some.inj b
    exact h
  | succ k => simp at a
theorem Als.snoc {α : Type} {R : V → α → Prop} {vs : List V} {xs : List α} {v : V} {x : α} (h : Als R vs xs) (q : R v x) : Als R (vs ++ [v]) (xs ++ [x]) := h.append (Als.one q)
theorem Als.mono {α : Type} {R R' : V → α → Prop} {vs : List V} {xs : List α} (h : Als R vs xs) (e : ∀ v x, R v x → R' v x) : Als R' vs xs := ⟨h.1, fun i v x a b => e v x (h.2 i v x a b)⟩
theorem Als.at {α : Type} {R : V → α → Prop} {vs : List V} {xs : List α} (h : Als R vs xs) {i : Nat} {v : V} (hv : vs[i]? = some v) : ∃ x, xs[i]? = some x ∧ R v x := by
  have hi : i < xs.length := by rw [← h.1]; exact (List.getElem?_eq_some_iff.mp hv).1
  exact ⟨xs[i], List.getElem?_eq_getElem hi, h.2 i v _ hv (List.getElem?_eq_getElem hi)⟩
theorem flat_take {α β : Type} (f : α → List β) {xs : List α} {i : Nat} {x : α} (h : xs[i]? = some x) : (xs.take (i + 1)).flatMap f = (xs.take i).flatMap f ++ f x := by
  rw [List.take_add_one, h, List.flatMap_append]
  simp
theorem filt_take {α : Type} (g : α → Bool) {xs : List α} {i : Nat} {x : α} (h : xs[i]? = some x) : (xs.take (i + 1)).filter g = (xs.take i).filter g ++ (if g x = true then [x] else []) := by
  rw [List.take_add_one, h, List.filter_append]
  congr 1
  by_cases hg : g x = true
  · simp [hg]
  · simp [hg]
/-- all but one list stays -/
def Fr (fo : Addr) (H H' : Hp) : Prop := ∀ b o, H b = some o → b ≠ fo → H' b = some o
theorem Fr.refl (fo : Addr) (H : Hp) : Fr fo H H := fun _ _ h _ => h
theorem Fr.upd {fo : Addr} {H H1 : Hp} {o : HO} (a : Fr fo H H1) : Fr fo H (L2.upd H1 fo o) := fun c x h n => by
  rw [upd_ne n]
  exact a c x h n
theorem Fr.sqT {K : PySem.W.Frag} {fo : Addr} {H H' : Hp} {a : Addr} {xs ys : List V} (e : Fr fo H H') (hf : H fo = some (.lst ys)) (h : SqT K H a xs) : SqT K H' a xs := by
  rcases h with (q | ⟨o, q⟩) | q
  · exact .inl (.inl (e _ _ q (ne_of q hf (by intro z; cases z))))
  · exact .inl (.inr ⟨o, e _ _ q (ne_of q hf (by intro z; cases z))⟩)
  · exact .inr q
end Ml
namespace Ml
open PySem PySem.Spec PyProof.Rows L2
/-! ### a dict of zip of two sequences, lists or tuples -/
def AIt : Bool → Heap → Addr → Addr → Nat → Prop
  | true, h, it, l, k => h.IsTupleIter it l k
  | false, h, it, l, k => h.IsListIter it l k
def ASq : Bool → Heap → Addr → Array Value → Prop
  | true, h, l, xs => h.IsTuple l xs
  | false, h, l, xs => h.IsList l xs
theorem AIt.at {b : Bool} {h h' : Heap} {it l : Addr} {k : Nat} (x : AIt b h it l k) (e : ∀ o, h.get? it = some o → h'.get? it = some o) : AIt b h' it l k := by
  cases b with
  | true => exact Heap.IsTupleIter.at x e
  | false => exact Heap.IsListIter.at x e
theorem ASq.at {b : Bool} {h h' : Heap} {l : Addr} {xs : Array Value} (x : ASq b h l xs) (e : ∀ o, h.get? l = some o → h'.get? l = some o) : ASq b h' l xs := by
  cases b with
  | true => exact Heap.IsTuple.at x e
  | false => exact Heap.IsList.at x e
theorem AIt.ex {b : Bool} {h h' : Heap} {it l c : Addr} {k : Nat} (x : AIt b h it l k) (e : Heap.ExtBut c h h') (ne : it ≠ c) : AIt b h' it l k := x.at fun o q => e _ _ ne q
theorem ASq.ex {b : Bool} {h h' : Heap} {l c : Addr} {xs : Array Value} (x : ASq b h l xs) (e : Heap.ExtBut c h h') (ne : l ≠ c) : ASq b h' l xs := x.at fun o q => e _ _ ne q
/-! ### zip of a tuple and a list -/
/-! ### a dict of zip of whole numbers and values -/
end Ml
namespace Ml
open PySem PySem.Spec PyProof.Rows L2
section
variable {P : Program} {w : World} {A : Around} {E : Value → Shared → Prop} {s : Shared}
/-- the items of a tuple, gathered -/
theorem gather_tup {l : Addr} {vs : List Value} {Q : List Value → Shared → Prop} (hl : s.heap.IsTuple l vs.toArray) (sz : vs.length ≤ sizeLine)
    (fin : Q vs { s with heap := (s.heap.push (seqObj "list" #[] 0)).update s.heap.objs.size (Obj.mapSeq (· ++ vs.toArray)) }) : wpAny (model P w) A (collect (.ref l)) Q E s := by
  obtain ⟨o, ho, hc, n, hd⟩ := id hl
  unfold collect
  refine wpAny_bind (wpAny_runValue (codeAny_builtin entry_proto_collect' (show wpAny _ _ (do again (.builtin "list.__iadd__" ⟨[← newList [], .ref l], []⟩)) _ _ s from ?_)))
  refine wpAny_bind (wpAny_newList (wpAny_pure ⟨Code.quiet_builtin _ (by decide +kernel), codeAny_builtin entry_list_iadd' (show wpAny _ _ (Builtin.List.listExtendWith (.ref s.heap.objs.size) (.ref l) (.ref s.heap.objs.size)) _ _ { s with heap := s.heap.push (seqObj "list" #[] 0) } from ?_)⟩))
  unfold Builtin.List.listExtendWith
  have there : (s.heap.push (seqObj "list" #[] 0)).get? l = some o := Heap.get?_push_of_some _ ho
  refine wpAny_bind (wpAny_typeOf (T := "tuple") ⟨o, there, hc⟩ ?_)
  rw [if_pos (by rw [show (Value.type "tuple" == Value.type "tuple") = true from by decide, Bool.or_true])]
  refine wpAny_bind (listItems_at there hd (wpAny_bind (listItems_at (xs := #[]) (n := 0) (Heap.get?_push_size _ rfl) rfl ?_)))
  rw [if_neg (by simp)]
  have room : (#[] ++ vs.toArray).size ≤ sizeLine + 1 := by
    simp only [Array.size_append, List.size_toArray, List.length_nil]
    omega
  refine wpAny_bind (listUpdate_at (xs := #[]) (n := 0) (Heap.get?_push_size _ rfl) rfl (wpAny_pure ?_) (Nat.zero_le _) room)
  have back : ((#[] : Array Value) ++ vs.toArray).toList = vs := by simp
  refine (show wpAny (model P w) A (load s.heap.objs.size >>= fun o => match o.data with | .seq xs _ => pure xs.toList | _ => unsupported "internal:collect") Q E _ from wpAny_bind (wpAny_load (get?_update_seq (Heap.get?_push_size _ rfl) _) ?_))
  refine (show wpAny _ _ (pure ((#[] : Array Value) ++ vs.toArray).toList) Q E _ from ?_)
  rw [back]
  exact wpAny_pure fin
end
end Ml
namespace Ml
open PySem PySem.Spec PyProof.Rows L2
/-! ### sorted of a list of data that compare -/
section
variable {X : Cx}
def rSortD (K : PySem.W.Frag) : List V → Hp → VK → Prop := fun vs H Q => ∃ (a : Addr) (L : List (V × PyData)), vs = [V.ref a] ∧ SqL K H a (L.map (·.1)) ∧ (∀ p ∈ L, Dp K H p.1 p.2) ∧ PySem.W.AllAlike (L.map (·.2)) ∧ PySem.W.Sortable (L.map (·.2)) ∧ (∀ p ∈ L, p.2.depth ≤ 60) ∧
  ∀ (L' : List (V × PyData)) (p : Addr), L'.Perm L → L'.Pairwise (fun q r => PySem.W.dataLt r.2 q.2 = false) → H p = none → Q (.ref p) (upd H p (.lst (L'.map (·.1))))
theorem each_rel : ∀ {L : List (V × PyData)} {us : List Value}, Vals (L.map (·.1)) us → PySem.W.EachIs (fun v (p : V × PyData) => RelV p.1 v) us L
  | [], _, .nil => .nil
  | p :: L, _, .cons r t => .cons r (each_rel t)
theorem rel_each : ∀ {L : List (V × PyData)} {us : List Value}, PySem.W.EachIs (fun v (p : V × PyData) => RelV p.1 v) us L → Vals (L.map (·.1)) us
  | [], _, .nil => .nil
  | p :: L, _, .cons r t => .cons r (rel_each t)
theorem cr_sortD (hu : X.A.units + 64 < cLine) : CallR X (.builtin "sorted") (rSortD X.K) := by
  intro pins s σ H vs us Q I r h
  obtain ⟨a, L, rfl, hs, hk, hal, hst, hdp, q⟩ := h
  obtain ⟨its, rv, hl, hz⟩ := I.list hs
  rw [Vals.ref1 r]
  have e0 := each_rel rv
  have er : ∀ (M : List (V × PyData)) (us : List Value), (∀ p ∈ M, p ∈ L) → PySem.W.EachIs (fun v (p : V × PyData) => RelV p.1 v) us M → PySem.W.EachIs (fun v (p : V × PyData) => ∃ as, Reads s.heap v p.2 as) us M := by
    intro M us hM h
    induction h with
    | nil => exact .nil
    | @cons v p us M h1 _ ih => exact .cons (Dp.reads I p.2 p.1 v (hk p (hM p List.mem_cons_self)) h1) (ih fun z hz => hM z (List.mem_cons_of_mem _ hz))
  refine PySem.W.sorted_data (enc := fun p : V × PyData => p.2) (by simpa using hl.isList) e0 (er L its (fun _ h => h) e0) hal hst (by rw [List.length_map] at hz; exact hz) (fun p hp => ?_) fun out hlen hout => ?_
  · have := hdp p hp
    show X.A.units + 2 + p.2.depth < cLine
    omega
  · obtain ⟨L', hL'⟩ : ∃ L', L' = L.mergeSort (PySem.W.dataLe false fun p : V × PyData => p.2) := ⟨_, rfl⟩
    rw [← hL'] at hout
    have pp : L'.Perm L := by rw [hL']; exact List.mergeSort_perm _ _
    have tot := PySem.W.sortLe_total (PyProof.Rows.listOrd PyProof.Rows.itemOrd) false fun p : V × PyData => PySem.W.keyToks p.2
    have srt : L'.Pairwise fun q r => (PySem.W.dataLe false (fun p : V × PyData => p.2) q r) = true := by
      rw [hL']
      exact PySem.W.sort_pairwise tot L
    obtain ⟨ep, he'⟩ := PyProof.Rows.sortedAll_at s.heap its out.toArray
    have short : (L'.map (·.1)).length ≤ sizeLine := by
      rw [List.length_map, pp.length_eq]
      rw [List.length_map] at hz
      exact hz
    refine ⟨.ref _, upd H (s.heap.objs.size + 1) (.lst (L'.map (·.1))), I.laid (t' := s.toks) (fun _ _ => PyProof.Rows.sortedAll_old) (Nat.le_succ _) ⟨short, out, ep, rel_each hout, he'⟩, rfl, q L' _ pp (srt.imp fun {q r} h => ?_) (I.hok.fresh (Nat.le_succ _))⟩
    have h' : (!PySem.W.dataLt r.2 q.2) = true := h
    cases e : PySem.W.dataLt r.2 q.2 with
    | false => rfl
    | true => rw [e] at h'; cases h'
end
def rNotInDT (K : PySem.W.Frag) : R2 := fun x y H Q => ∃ d ds, Dp K H x d ∧ Dp K H y (.tuple ds) ∧ SeqAt.shaped d = true ∧ SeqAt.shaped (.tuple ds) = true ∧ Q (.bl (!ds.any fun z => PyData.eqv z d)) H
theorem op_notInDT {X : Cx} (hu : X.A.units + 65 < cLine) : OpR X (compareOp .NotIn) (rNotInDT X.K) := by
  intro pins s σ H x y v u Q I rx ry h
  obtain ⟨d, ds, hd, he, sd, se, q⟩ := h
  obtain ⟨as, r1⟩ := Dp.reads I d x v hd rx
  obtain ⟨bs, r2⟩ := Dp.reads I (.tuple ds) y u he ry
  exact SeqAt.notIn_tuple_reads r2 r1 (SeqAt.canLay_of_shaped se) (SeqAt.canLay_of_shaped sd) (room_in_shaped sd hu) ⟨.bl _, H, I, rfl, q⟩
end Ml
namespace Ml
open PySem PySem.Spec PyProof.Rows L2
/-! ### a set of a tuple of tuples of ints -/
section
variable {P : Program} {w : World} {A : Around} {E : Value → Shared → Prop} {s : Shared}
set_option maxHeartbeats 6400000 in
theorem set_of_tups {l : Addr} {vals : Array Value} (ks : List (Addr × List Int)) {Q : Value → Shared → Prop} (calm : A.handled = none) (isl : s.heap.IsTuple l vals) (are : vals.toList = ks.map fun p => Value.ref p.1) (tups : ∀ p ∈ ks, IsT P w s.heap p.2 p.1) (few : ks.length < 64) (room : A.units + 3 < cLine)
    (fin : ∀ (g : Heap) (tk : Nat) L es ep t, SetTR P w g s.heap.objs.size L es ep t → Got ks ks.length L → (∀ b o, s.heap.get? b = some o → g.get? b = some o) → Q (.ref s.heap.objs.size) { s with heap := g, toks := tk }) :
    wpAny (model P w) A (call (.type "set") [.ref l]) Q E s := by
  have size : vals.size = ks.length := by
    have e := congrArg List.length are
    rwa [Array.length_toList, List.length_map] at e
  obtain ⟨_, _, mro⟩ := F.called_set.mro
  have made := F.called_set.made
  have subs := F.called_set.sub
  refine wpAny_call (codeAny_of_tree ?_)
  show wpAny _ _ (callAny (.type "set") _) _ _ _
  refine wpAny_pure ⟨Code.quiet_builtin _ (by decide +kernel), codeAny_builtin F.entry_type_call ?_⟩
  rw [Around.under_plain (weight_type_call_type "set" [.ref l] []) rfl]
  have a1 := F.called_set.notType
  have a2 := F.called_set.canCreate
  have a3 := F.typeCall_set_1 (.ref l)
  repeat (any_goals (first | assumption | wp_step))
  refine codeAny_mono (code_set_led1 (.ref l) (E := E) (Q₁ := fun v z => v = .ref s.heap.objs.size ∧ z = { s with heap := s.heap.push (emptyS w) }) ⟨rfl, rfl⟩) fun res z hz => ?_
  cases res with
  | error e => exact hz
  | ok fl =>
    cases fl with
    | ret obj =>
      obtain ⟨rfl, rfl⟩ := hz
      have there : (s.heap.push (emptyS w)).get? s.heap.objs.size = some (emptyS w) := Heap.get?_push_size _ rfl
      have typ : Shared.TypeIs { s with heap := s.heap.push (emptyS w) } (.ref s.heap.objs.size) "set" := ⟨_, there, rfl⟩
      have b1 := F.called_set.init.lookup
      have b2 := F.called_set.init.bind (.ref s.heap.objs.size)
      repeat (any_goals (first | assumption | wp_step))
      refine codeAny_mono (codeAny_call_builtin (R := wants (fun u z => u = .none ∧ ∃ g tk L es ep t, z = { s with heap := g, toks := tk } ∧ SetTR P w g s.heap.objs.size L es ep t ∧ Got ks ks.length L ∧
          (∀ b o, s.heap.get? b = some o → g.get? b = some o)) E) F.called_set.init.plain F.entry_set_init (check_set_init_1 typ ?_)) fun res2 z2 hz2 => ?_
      · obtain ⟨⟨ocl, odi, oda, osl⟩, hol, hcl, nl, hda⟩ := isl
        simp only at hcl hda
        subst hcl hda
        have hol1 : (s.heap.push (emptyS w)).get? l = some { cls := .type "tuple", dict := odi, data := .seq vals nl, slots := osl } := Heap.get?_push_of_some _ hol
        have c1 := F.sub_tuple_set
        have c2 := F.sub_tuple_frozenset
        have c3 : (Value.type "tuple" == Value.type "dict") = false := by decide
        have isl1 : (s.heap.push (emptyS w)).IsTuple l vals := ⟨_, hol1, rfl, nl, rfl⟩
        unfold Builtin.«set.__init__» noKeywords Builtin.Frozenset.updateFrom
        generalize hPI : pyIter = PI
        wp_walk
        subst hPI
        refine wpAny_pyIter_tuple isl1 ?_
        refine wpAny_bind (wpAny_runValue ?_)
        have lo : l < s.heap.objs.size := Heap.lt_size hol
        have calm3 : A.in1.in1.in1.handled = none := by simp [calm]
        have n1 : l ≠ (s.heap.push (emptyS w)).objs.size := by
          rw [Heap.size_push]
          exact Nat.ne_of_lt (Nat.lt_of_lt_of_le lo (Nat.le_succ _))
        have n2 : s.heap.objs.size ∉ [(s.heap.push (emptyS w)).objs.size, l] := by
          rw [Heap.size_push]
          simp only [List.mem_cons, List.not_mem_nil, or_false, not_or]
          exact ⟨Nat.ne_of_lt (Nat.lt_succ_self _), fun e => Nat.lt_irrefl _ (e ▸ lo)⟩
        have vat : ∀ (i : Nat) (v : Value), vals[i]? = some v → ∃ p, ks[i]? = some p ∧ v = .ref p.1 := fun i v hv => by
          have e : vals.toList[i]? = some v := by rw [Array.getElem?_toList]; exact hv
          rw [are, List.getElem?_map] at e
          cases e2 : ks[i]? with
          | none => rw [e2] at e; cases e
          | some p => rw [e2] at e; exact ⟨p, rfl, (Option.some.inj e).symm⟩
        have out : ∀ b, s.heap.objs.size ≤ b → s.heap.get? b = none := fun b hb => by
          cases e : s.heap.get? b with
          | none => rfl
          | some o => exact absurd (Heap.lt_size e) (Nat.not_lt_of_le hb)
        refine set_update_tups ((Walks.tuple calm3 _ l n1 vals).toS) s.heap.objs.size n2 ks size few vat s.heap tups (out _ (Nat.le_refl _)) (fun b hb => out b (by rw [List.mem_singleton.mp hb, Heap.size_push]; exact Nat.le_succ _)) room (vals.size - 0) 0 _ (by omega) (Nat.zero_le _)
          ⟨⟨_, Heap.get?_push_size _ rfl, rfl, rfl⟩, isl1.push _⟩ (fun b o e => Heap.get?_push_of_some _ (Heap.get?_push_of_some _ e)) ⟨[], #[], 0, _, setTR_fresh (Heap.get?_push_of_some _ there), Got.zero ks⟩ ?_
        rintro ⟨g, ge, dr, tk, os⟩ L es ep t mv hS got keep
        have e1 : ge = s.gens := mv.gens
        have e2 : dr = s.drawn := mv.drawn
        have e3 : os = s.os := mv.os
        subst e1 e2 e3
        show wpAny _ _ _ _ _ _
        refine wpAny_pure ?_
        show wpAny _ _ (ret Value.none) _ _ _
        rw [size] at got
        exact wpAny_pure ⟨rfl, g, tk, L, es, ep, t, rfl, hS, got, keep⟩
      · cases res2 with
        | error e => exact hz2
        | ok fl2 =>
          cases fl2 with
          | ret u =>
            obtain ⟨rfl, g, tk, L, es, ep, t, rfl, hS, got, keep⟩ := hz2
            repeat (any_goals (first | assumption | wp_step))
            exact fin _ _ _ _ _ _ hS got keep
          | _ => exact hz2.elim
    | _ => exact hz.elim
end
section
variable {X : Cx}
def rSetP (K : PySem.W.Frag) (P : Program) (w : World) : List V → Hp → VK → Prop := fun vs H Q => ∃ (a : Addr) (ks : List (Addr × List Int)), vs = [V.ref a] ∧ SqT K H a (ks.map fun p => V.ref p.1) ∧ (∀ p ∈ ks, SqT K H p.1 (p.2.map V.int)) ∧ ks.length < 64 ∧
  ∀ p L, H p = none → (∀ e ∈ L, e ∈ ks) → (∀ e ∈ ks, e.2 ∈ L.map (·.2)) → Q (.ref p) (upd H p (SetTO P w p L))
theorem cr_setP (hc : X.calm = true) (hu : X.A.units + 64 < cLine) : CallR X (.type "set") (rSetP X.K X.prog X.w) := by
  intro pins s σ H xs us Q I rxs h
  obtain ⟨a, ks, rfl, hs, hk, few, q⟩ := h
  obtain ⟨u, rfl, ru⟩ := rxs.one
  cases ru
  obtain ⟨its, rv, isT, _⟩ := I.tuple hs
  refine set_of_tups (P := X.prog) (w := X.w) ks (I.ok.hd hc) (show s.heap.IsTuple a its.toArray from isT) (by simpa using refs_of_vals rv) (fun p hp => I.isT (hk p hp)) few (by omega) fun g tk L es ep t R got keep => ?_
  have free : H s.heap.objs.size = none := I.hok.fresh (Nat.le_refl _)
  exact ⟨.ref s.heap.objs.size, upd H s.heap.objs.size (SetTO X.prog X.w s.heap.objs.size L), I.laid (t' := tk) keep (Nat.le_refl _) (setTO_new R.t0), rfl, q _ L free (fun p hp => List.mem_of_mem_take (got.sub p hp)) fun p hp => got.all p (by rw [List.take_length]; exact hp)⟩
end
end Ml
namespace Ml
open PySem PySem.Spec PyProof.Rows L2
/-! ### {elt for t0 in i0 if ..}, elt an int -/
section
variable {X : Cx}
/-- one more int into the set at D -/
def AddI (w : World) (D : Addr) (y : V) (H : Hp) (Nx : Hp → Prop) : Prop := ∃ (i : Int) (S : Int → Bool) (n : Nat), y = .int i ∧ H D = some (SetO w D S n) ∧ n + 1 < scanBound ∧ Nx (upd H D (SetO w D (fun j => S j || decide (j = i)) (if S i = true then n else n + 1)))
/-- {elt for t0 in i0 if ..}, elt a tuple of ints: D the new set -/
def tSi (w : World) (wi : TI) (g : TG) (tt : L2.TT) (te : TE) (vs : List Nat) : TE := fun σ H Q => wi σ H fun J H1 => ∀ D, H1 D = none → ∃ W : Nat → Nat → Hp → Prop, (∃ m, W 0 m (upd H1 D (SetO w D (fun _ => false) 0))) ∧ ∀ i m H, W i m H →
  (J.stop i H ∧ Q (.ref D) H) ∨ (J.go i H ∧ ∃ Nx : Hp → Prop, (∀ H', Nx H' → ∃ m', m' < m ∧ W (i + 1) m' H') ∧ ∀ x H', J.yld i H x H' → g x (wipe σ vs) H' fun σ2 H2 => wipe σ2 vs = wipe σ vs ∧ tt σ2 H2 fun b H3 =>
    if b = true then te σ2 H3 fun y H4 => AddI w D y H4 Nx else Nx H3)
theorem si_core {pins : List (Addr × Obj)} {s : Shared} {σ : L2.St} {H : Hp} {Q : VK} {elt t0 i0 : Expr} {ifs : List Expr} {scope : Scope} {own : List (PySem.Str × Nat)} {pos pos' : Pos} {wi : TI} {g : TG} {tt : L2.TT} {te : TE} {use : Option (Value → Sem Unit)} {Qf : Value → Shared → Prop}
    (calm : X.calm = true) (hu : X.A.units + 64 < cLine) (nod : X.N.Nodup) (I : Inv X pins σ H s) (hi : PI X t0 i0 wi) (ok : BlkOk X.N X.env.scope scope own)
    (hg : InBlk X scope fun Y => PG Y t0 g) (ht : InBlk X scope fun Y => PTs Y ifs tt) (he : InBlk X scope fun Y => PE Y elt te)
    (pl0 : ∀ x, foldedSetIterable i0 X.env x = pure x) (h : tSi X.w wi g tt te (own.map (·.2)) σ H Q)
    (back : ∀ D C z m H', Inv X pins σ H' z → Q (.ref D) H' → z.heap.Ns C m → FpOk X pins H' C → compPost (model X.prog X.w) X.A X.xe use Qf (.ref D) C (.ok .next) z) :
    wpAny (model X.prog X.w) X.A (comprehension (.SetComp elt [⟨t0, i0, ifs, 0⟩] scope pos) scope X.env pos' (newSet (.type "set")) false (eval i0 X.env) use) Qf X.xe s := by
  have frees : ∀ y ∈ scope.names, y.2 = .free → ∃ c, X.env.cells.lookup y.1 = some c := fun y hy e => by
    rcases ok.free y hy e with k | k
    · exact I.ok.has _ (.inl k)
    · exact I.ok.has _ (.inr k)
  refine wpAny_comprehension_free (use := use) rfl pl0 (closure_ok frees) ok.kind (fun y hy e => by rw [ok.uniq y hy, e]) (thn (hi.run pins s σ H _ I h) fun xv z1 hx => thn hx fun itv z2 h2 => ?_)
  obtain ⟨it, fp, tn, J, H2, rfl, I2, T, st2, f2, q⟩ := h2
  refine PpSet.newSet_ok (newEnv_comp ?_)
  generalize hD : z2.heap.objs.size = D
  have hDn : H2 D = none := I2.hok.fresh (Nat.le_of_eq hD)
  obtain ⟨W, ⟨m0, w0⟩, turn⟩ := q D hDn
  generalize hz3 : ({ z2 with heap := z2.heap.push (emptyS X.w) } : Shared) = z3
  have I3 : Inv X pins σ (upd H2 D (SetO X.w D (fun _ => false) 0)) z3 := by
    rw [← hz3]
    refine I2.laid (t' := z2.toks) (fun b o e => Heap.get?_push_of_some _ e) (Nat.le_of_eq hD) ?_
    rw [← hD]
    exact setO_new (setR_fresh X.w)
  have h3 : z3.heap = z2.heap.push (emptyS X.w) := by rw [← hz3]
  have f3 : ∀ b ∈ fp, FpOk X pins (upd H2 D (SetO X.w D (fun _ => false) 0)) b ∧ b < z3.heap.objs.size := fun b hb => by
    obtain ⟨o, e, _⟩ := T.obj _ _ st2 b hb
    have lt := Heap.lt_size e
    refine ⟨⟨?_, (f2 b hb).2⟩, by rw [h3, Heap.size_push]; exact Nat.lt_succ_of_lt lt⟩
    rw [upd_ne (by rw [← hD]; exact Nat.ne_of_lt lt)]
    exact (f2 b hb).1
  have st3 : tn 0 z3.heap := T.keep _ _ _ st2 fun b _ o e => by rw [h3]; exact Heap.get?_push_of_some _ e
  have I4 := block_start I3 ok nod f3
  generalize hcl : cellsFrom (z3.heap.objs.size + 1) scope.names (cloFrom X.env.cells scope.names []) = cl at I4
  have pg := hg z3 (upd H2 D (SetO X.w D (fun _ => false) 0)) z3.heap.objs.size cl fp
  have pt := ht z3 (upd H2 D (SetO X.w D (fun _ => false) 0)) z3.heap.objs.size cl fp
  have pe := he z3 (upd H2 D (SetO X.w D (fun _ => false) 0)) z3.heap.objs.size cl fp
  have goal : codeAny (model X.prog X.w) X.A (.compStart (.SetComp elt [⟨t0, i0, ifs, 0⟩] scope pos) 0 (.ref it) (.ref D) (compEnvC scope cl z3.heap.objs.size X.env)) (compPost (model X.prog X.w) X.A X.xe use Qf (.ref D) z3.heap.objs.size) { z3 with heap := pushCells (z3.heap.push { cls := .type "dict", data := .dict #[] }) scope.names } := by
    have nfp : ∀ b ∈ fp, (upd H2 D (SetO X.w D (fun _ => false) 0)) b = none := fun b hb => (f3 b hb).1.1
    generalize hce : compEnvC scope cl z3.heap.objs.size X.env = ce at I4 pg pt pe ⊢
    have cL : ce.locals = z3.heap.objs.size := by subst hce; rfl
    generalize hH3 : upd H2 D (SetO X.w D (fun _ => false) 0) = H3 at I3 I4 pg pt pe w0 nfp f3
    generalize hz4 : ({ z3 with heap := pushCells (z3.heap.push { cls := .type "dict", data := .dict #[] }) scope.names } : Shared) = z4 at I4 ⊢
    have st4 : tn 0 z4.heap := T.keep _ _ _ st3 fun b _ o e => by rw [← hz4]; exact pushCells_keeps _ _ _ _ (Heap.get?_push_of_some _ e)
    have stat : ∀ {σ' : L2.St} {H' : Hp} {z : Shared}, Inv (X.blk z3 H3 scope ce fp) [] σ' H' z → (∀ b ∈ fp, H' b = none) → ∀ b ∈ fp, FpOk (X.blk z3 H3 scope ce fp) [] H' b := fun {σ' H' z} J' hn b hb =>
      ⟨hn b hb, (J'.ok.exf b hb).1, J'.ok.exfs b hb, .inl hb, fun x c e => (J'.ok.exf b hb).2 x c e, fun p hp => absurd (show p ∈ ([] : List (Addr × Obj)) ++ [] from hp) List.not_mem_nil⟩
    have loop : codeAny (model X.prog X.w) X.A (.compLoop (.SetComp elt [⟨t0, i0, ifs, 0⟩] scope pos) 0 (.ref it) (.ref D) ce) (compPost (model X.prog X.w) X.A X.xe use Qf (.ref D) z3.heap.objs.size) z4 := by
      refine PpSet.compLoopS_any (fun n z => ∃ i H', Inv (X.blk z3 H3 scope ce fp) [] (wipe σ (own.map (·.2))) H' z ∧ tn i z.heap ∧ (∀ b ∈ fp, H' b = none) ∧ W i n H') ?_ m0 ⟨0, H3, I4, st4, nfp, w0⟩
      rintro n z5 ⟨i, H5, I5, st5, n5, w5⟩
      rcases turn i n H5 w5 with ⟨stop, qq⟩ | ⟨go, Nx, hNx, step⟩
      · refine thnF (T.done (X.blk z3 H3 scope ce fp) rfl rfl rfl calm i [] z5 _ H5 (fun _ _ => False) I5 (stat I5 n5) st5 stop) fun r z6 ⟨hr, I6⟩ => ?_
        subst hr
        have I7 : Inv X pins σ H5 z6 := I3.call' (ch := fp) I6.os I6.base I6.hok I6.bare fun b hb => ⟨(f3 b hb).1.2.2.2.1, (f3 b hb).1.2.1, (f3 b hb).1.2.2.2.2.1, (f3 b hb).1.2.2.2.2.2⟩
        have nC : H5 z3.heap.objs.size = none := by
          have e : H5 ce.locals = none := I6.free
          rwa [cL] at e
        obtain ⟨m, hn, _⟩ := I6.loc
        have hn : z6.heap.Ns ce.locals m := hn
        rw [cL] at hn
        exact back D z3.heap.objs.size z6 m H5 I7 qq hn (I3.fpOk (Nat.le_refl _) nC)
      · refine thnF (T.item (X.blk z3 H3 scope ce fp) rfl rfl rfl calm i [] z5 _ H5 (fun _ _ => False) I5 (stat I5 n5) st5 go) fun r z6 ⟨u, hr, h6⟩ => ?_
        subst hr
        refine thnF h6 fun _ z7 ⟨x, H7, I7, r7, y7, st7, n7⟩ => ?_
        have I7' := I7.pinned (stat I7 n7) (T.obj _ _ st7)
        refine thnF (pg.run _ z7 _ H7 x u _ I7' r7 (step x H7 y7)) fun _ z8 ⟨σ8, H8, I8, hw8, q8⟩ => ?_
        refine thnF (pt.run _ z8 σ8 H8 _ I8 q8) fun b z9 ⟨H9, I9, q9⟩ => ?_
        have fin : ∀ {z : Shared} {H' : Hp}, Inv (X.blk z3 H3 scope ce fp) ([] ++ pinsAt fp z7.heap) σ8 H' z → Nx H' →
            ∃ m, m < n ∧ ∃ i H', Inv (X.blk z3 H3 scope ce fp) [] (wipe σ (own.map (·.2))) H' z ∧ tn i z.heap ∧ (∀ b ∈ fp, H' b = none) ∧ W i m H' := fun {z H'} J' nx => by
          obtain ⟨m', hm, w'⟩ := hNx H' nx
          have pin : ∀ b ∈ fp, ∀ o, z7.heap.get? b = some o → z.heap.get? b = some o ∧ H' b = none := fun b hb o e => by
            have p := J'.pin (b, o) (List.mem_append_right _ (List.mem_append_right _ (mem_pinsAt hb e)))
            exact ⟨p.1, p.2.1⟩
          refine ⟨m', hm, i + 1, H', (J'.unpinned (pins := [])).weak (by rw [← hw8, wipe_length]) (fun j v e => by rw [← hw8] at e; exact (wipe_some e).1), T.keep _ _ _ st7 fun b hb o e => (pin b hb o e).1, fun b hb => ?_, w'⟩
          obtain ⟨o, e, _⟩ := T.obj _ _ st7 b hb
          exact (pin b hb o e).2
        cases b with
        | false => exact fin I9 q9
        | true =>
          refine thnF (pe.run _ z9 σ8 H9 _ I9 q9) fun zv z10 ⟨yv, H10, I10, r10, add⟩ => ?_
          obtain ⟨y0, S0, n0, rfl, hD0, room0, nx⟩ := add
          obtain ⟨t0, rfl⟩ := r10
          exact put_int (X := X.blk z3 H3 scope ce fp) I10 hD0 room0 fun z11 I11 => fin I11 nx
    exact PpSet.codeAny_compStart_set loop (T.self X.A 0 _ _ _ st4 loop)
  subst hcl
  exact goal
theorem pe_si {elt t0 i0 : Expr} {ifs : List Expr} {scope : Scope} {own : List (PySem.Str × Nat)} {pos : Pos} {wi : TI} {g : TG} {tt : L2.TT} {te : TE} (calm : X.calm = true) (hu : X.A.units + 64 < cLine) (nod : X.N.Nodup) (hi : PI X t0 i0 wi) (ok : BlkOk X.N X.env.scope scope own)
    (hg : ∀ (s : Shared) (H : Hp) (C : Addr) (cl : List (PySem.Str × Addr)) (fp : List Addr), PG (X.blk s H scope (compEnvC scope cl C X.env) fp) t0 g) (ht : ∀ (s : Shared) (H : Hp) (C : Addr) (cl : List (PySem.Str × Addr)) (fp : List Addr), PTs (X.blk s H scope (compEnvC scope cl C X.env) fp) ifs tt) (he : ∀ (s : Shared) (H : Hp) (C : Addr) (cl : List (PySem.Str × Addr)) (fp : List Addr), PE (X.blk s H scope (compEnvC scope cl C X.env) fp) elt te)
    (pl0 : ∀ x, foldedSetIterable i0 X.env x = pure x := by intro _; rfl) : PE X (.SetComp elt [⟨t0, i0, ifs, 0⟩] scope pos) (tSi X.w wi g tt te (own.map (·.2))) := by
  refine ⟨fun pins s σ H Q I h => ?_⟩
  rw [PpSet.eval_SetComp]
  refine si_core calm hu nod I hi ok hg ht he pl0 h fun D C z m H' I' q hn f => ⟨m, hn, fun _ sb => ?_⟩
  obtain ⟨f0, f1, f2, f3, f4, f5⟩ := f
  exact ⟨.ref D, H', I'.turned (t' := z.toks) (fun b o hb e => (sb.2 b hb).trans e) f0 f1 f3 f4 f5, rfl, q⟩
/-- over what walks -/
theorem si_it {J : It} {n : Nat} {G : Hp → Prop} {Y : Nat → Hp → V → Hp → Prop} (wk : Walk J n G Y) {w : World} {g : TG} {tt : L2.TT} {te : TE} {vs : List Nat} {σ : L2.St} {H1 : Hp} {D : Addr} {Qd : Hp → Prop} (Pv : Nat → Hp → Prop) (h0 : Pv 0 (upd H1 D (SetO w D (fun _ => false) 0))) (hG : ∀ i H, i ≤ n → Pv i H → G H)
    (hs : ∀ i x H H', i < n → Pv i H → Y i H x H' → g x (wipe σ vs) H' fun σ2 H2 => wipe σ2 vs = wipe σ vs ∧ tt σ2 H2 fun b H3 => if b = true then te σ2 H3 fun y H4 => AddI w D y H4 (Pv (i + 1)) else Pv (i + 1) H3) (hd : ∀ H, Pv n H → Qd H) :
    ∃ W : Nat → Nat → Hp → Prop, (∃ m, W 0 m (upd H1 D (SetO w D (fun _ => false) 0))) ∧ ∀ i m H, W i m H →
      (J.stop i H ∧ Qd H) ∨ (J.go i H ∧ ∃ Nx : Hp → Prop, (∀ H', Nx H' → ∃ m', m' < m ∧ W (i + 1) m' H') ∧ ∀ x H', J.yld i H x H' → g x (wipe σ vs) H' fun σ2 H2 => wipe σ2 vs = wipe σ vs ∧ tt σ2 H2 fun b H3 =>
        if b = true then te σ2 H3 fun y H4 => AddI w D y H4 Nx else Nx H3) := by
  refine ⟨fun i m H => m = n - i ∧ i ≤ n ∧ Pv i H, ⟨n, (Nat.sub_zero n).symm, Nat.zero_le n, h0⟩, fun i m H hw => ?_⟩
  obtain ⟨rfl, le, p⟩ := hw
  have stands := hG i H le p
  by_cases lt : i < n
  · exact .inr ⟨wk.goes i H lt stands, Pv (i + 1), fun H' p' => ⟨n - (i + 1), by omega, rfl, lt, p'⟩, fun x H' y => hs i x H H' lt p (wk.yields i H x H' lt stands y)⟩
  · obtain rfl : i = n := by omega
    exact .inl ⟨wk.stops H stands, hd H p⟩
end
end Ml
namespace Ml
open PySem PySem.Spec PyProof.Rows L2
/-! ### sorted of a tuple of data that compare -/
section
variable {P : Program} {w : World} {A : Around} {E : Value → Shared → Prop} {s : Shared}
theorem sort_tupD {α : Type} {R : Value → α → Prop} {enc : α → PyData} {l : Addr} {vs : List Value} {bs : List α} {Q : Value → Shared → Prop} (hl : s.heap.IsTuple l vs.toArray) (sz : vs.length ≤ sizeLine)
    (e : PySem.W.EachIs R vs bs) (er : PySem.W.EachIs (fun v b => ∃ as, Reads s.heap v (enc b) as) vs bs) (hal : PySem.W.AllAlike (bs.map enc)) (hk : PySem.W.Sortable (bs.map enc)) (hu : ∀ b, b ∈ bs → A.units + 2 + (enc b).depth < cLine)
    (fin : ∀ z p (out : List Value) (c : Nat), (∀ b o, s.heap.get? b = some o → z.heap.get? b = some o) → z.gens = s.gens → z.os = s.os → s.heap.objs.size ≤ p →
      z.heap.get? p = some (seqObj "list" out.toArray c) → PySem.W.EachIs R out (bs.mergeSort (PySem.W.dataLe false enc)) → Q (.ref p) z) :
    wpAny (model P w) A (call (.builtin "sorted") [.ref l]) Q E s := by
  refine Calls.call_function_entry kind_sorted plain_sorted entry_sorted (args_sorted1 _) ?_
  unfold Builtin.«sorted»
  refine wpAny_bind (m := checkCount "sorted" 1 1 _) (wpAny_pure ?_)
  refine wpAny_bind (gather_tup (A := A.in1) hl sz ?_)
  generalize hz : ({ s with heap := (s.heap.push (seqObj "list" #[] 0)).update s.heap.objs.size (Obj.mapSeq (· ++ vs.toArray)) } : Shared) = z1
  have keep : ∀ b o, s.heap.get? b = some o → z1.heap.get? b = some o := fun b o e => by
    rw [← hz]
    show ((s.heap.push (seqObj "list" #[] 0)).update s.heap.objs.size (Obj.mapSeq (· ++ vs.toArray))).get? b = some o
    rw [Heap.get?_update_ne _ _ _ _ (Nat.ne_of_lt (Heap.lt_size e))]
    exact Heap.get?_push_of_some _ e
  have le : s.heap.objs.size ≤ z1.heap.objs.size := by
    rw [← hz]
    show _ ≤ ((s.heap.push (seqObj "list" #[] 0)).update s.heap.objs.size (Obj.mapSeq (· ++ vs.toArray))).objs.size
    rw [Heap.size_update, size_push']
    exact Nat.le_succ _
  have gens : z1.gens = s.gens := by rw [← hz]
  have os : z1.os = s.os := by rw [← hz]
  refine wpAny_bind (wpAny_newList ?_ sz)
  have there : (z1.heap.push (seqObj "list" vs.toArray 0)).get? z1.heap.objs.size = some (seqObj "list" vs.toArray 0) := Heap.get?_push_size _ rfl
  have er' : PySem.W.EachIs (fun v b => ∃ as, Reads (PySem.W.sortingHeap (z1.heap.push (seqObj "list" vs.toArray 0)) z1.heap.objs.size vs) v (enc b) as) vs bs :=
    er.mono fun _ _ ⟨as, r⟩ => ⟨as, PyProof.Rows.Reads.keeps (fun b o q => by
      have q1 := keep b o q
      exact PySem.W.sortingHeap_old (Nat.ne_of_lt (Heap.lt_size q1)) (Heap.get?_push_of_some _ q1)) r⟩
  refine wpAny_bind (wpAny_holding (wpAny_call_entry slot_list_sort ⟨_, there, rfl⟩ entry_list_sort (PySem.W.list_sort_vals (s := { z1 with heap := z1.heap.push (seqObj "list" vs.toArray 0) }) (κ := PySem.W.dataKind (PySem.W.sortingHeap (z1.heap.push (seqObj "list" vs.toArray 0)) z1.heap.objs.size vs) (bs.map enc)) there
    (PySem.W.SortsAt.data (s := { z1 with heap := PySem.W.sortingHeap (z1.heap.push (seqObj "list" vs.toArray 0)) z1.heap.objs.size vs }) (PySem.W.each_map (R := fun v d => ∃ as, Reads (PySem.W.sortingHeap (z1.heap.push (seqObj "list" vs.toArray 0)) z1.heap.objs.size vs) v d as) enc er') hal hk (PySem.W.bound_map hu)) sz ⟨_, rfl, ?_⟩) (args_list_sort _)))
  generalize ho : (PySem.W.sortVals (PySem.W.dataKind (PySem.W.sortingHeap (z1.heap.push (seqObj "list" vs.toArray 0)) z1.heap.objs.size vs) (bs.map enc)) false vs vs) = out
  have eo : PySem.W.EachIs R out (bs.mergeSort (PySem.W.dataLe false enc)) := by
    rw [← ho]
    exact PySem.W.sortVals_data false e er' hal
  obtain ⟨c, hc⟩ := sortedHeap_at (vs := vs) (out := out.toArray) there
  refine wpAny_pure ⟨_, rfl, fin _ z1.heap.objs.size out c (fun b u e => ?_) gens os le hc eo⟩
  have q := keep b u e
  have lt := Heap.lt_size q
  show (sortedHeap (z1.heap.push (seqObj "list" vs.toArray 0)) z1.heap.objs.size vs out.toArray).get? b = some u
  rw [sortedHeap_old (Nat.ne_of_lt lt) (by rw [size_push']; exact Nat.lt_succ_of_lt lt)]
  exact Heap.get?_push_of_some _ q
end
section
variable {X : Cx}
def rSortTD (K : PySem.W.Frag) : List V → Hp → VK → Prop := fun vs H Q => ∃ (a : Addr) (L : List (V × PyData)), vs = [V.ref a] ∧ SqT K H a (L.map (·.1)) ∧ (∀ p ∈ L, Dp K H p.1 p.2) ∧ PySem.W.AllAlike (L.map (·.2)) ∧ PySem.W.Sortable (L.map (·.2)) ∧ (∀ p ∈ L, p.2.depth ≤ 60) ∧
  ∀ (L' : List (V × PyData)) (p : Addr), L'.Perm L → L'.Pairwise (fun q r => PySem.W.dataLt r.2 q.2 = false) → H p = none → Q (.ref p) (upd H p (.lst (L'.map (·.1))))
theorem cr_sortTD (hu : X.A.units + 64 < cLine) : CallR X (.builtin "sorted") (rSortTD X.K) := by
  intro pins s σ H vs us Q I r h
  obtain ⟨a, L, rfl, hs, hk, hal, hst, hdp, q⟩ := h
  obtain ⟨its, rv, pl, hz⟩ := I.tuple hs
  rw [Vals.ref1 r]
  have e0 := each_rel rv
  have er : ∀ (M : List (V × PyData)) (us : List Value), (∀ p ∈ M, p ∈ L) → PySem.W.EachIs (fun v (p : V × PyData) => RelV p.1 v) us M → PySem.W.EachIs (fun v (p : V × PyData) => ∃ as, Reads s.heap v p.2 as) us M := by
    intro M us hM h
    induction h with
    | nil => exact .nil
    | @cons v p us M h1 _ ih => exact .cons (Dp.reads I p.2 p.1 v (hk p (hM p List.mem_cons_self)) h1) (ih fun z hz => hM z (List.mem_cons_of_mem _ hz))
  refine sort_tupD (enc := fun p : V × PyData => p.2) pl (by rw [← rv.length]; exact hz) e0 (er L its (fun _ h => h) e0) hal hst (fun p hp => ?_) fun z p out c keep gens os le hp hout => ?_
  · have := hdp p hp
    show X.A.units + 2 + p.2.depth < cLine
    omega
  · obtain ⟨L', hL'⟩ : ∃ L', L' = L.mergeSort (PySem.W.dataLe false fun p : V × PyData => p.2) := ⟨_, rfl⟩
    rw [← hL'] at hout
    have pp : L'.Perm L := by rw [hL']; exact List.mergeSort_perm _ _
    have tot := PySem.W.sortLe_total (PyProof.Rows.listOrd PyProof.Rows.itemOrd) false fun p : V × PyData => PySem.W.keyToks p.2
    have srt : L'.Pairwise fun q r => (PySem.W.dataLe false (fun p : V × PyData => p.2) q r) = true := by
      rw [hL']
      exact PySem.W.sort_pairwise tot L
    have free : H p = none := I.hok.fresh le
    have short : (L'.map (·.1)).length ≤ sizeLine := by
      rw [List.length_map, pp.length_eq]
      rw [List.length_map] at hz
      exact hz
    have J : Inv X pins σ (upd H p (.lst (L'.map (·.1)))) { s with heap := z.heap, gens := z.gens, drawn := z.drawn, toks := z.toks } :=
      I.call (ch := []) (Un.laid keep le free) (I.hok.laid keep le ⟨short, out, c, rel_each hout, hp⟩) (by rw [gens]; exact I.bare) (fun _ e => nomatch e)
    obtain ⟨zh, zg, zd, zt, zo⟩ := z
    have e : zo = s.os := os
    subst e
    refine ⟨.ref p, _, J, rfl, q L' p pp (srt.imp fun {q r} h => ?_) free⟩
    have h' : (!PySem.W.dataLt r.2 q.2) = true := h
    cases e : PySem.W.dataLt r.2 q.2 with
    | false => rfl
    | true => rw [e] at h'; cases h'
end
end Ml
namespace Ml
open PySem PySem.Spec PyProof.Rows L2
/-! ### the greatest of some data -/
section
variable {X : Cx}
def rMaxDa (K : PySem.W.Frag) : List V → Hp → VK → Prop := fun vs H Q => ∃ (a : Addr) (ys : List V) (x : PyData) (xs : List PyData), vs = [V.ref a] ∧ SqL K H a ys ∧ DpAll K H ys (x :: xs) ∧ PySem.W.AlikeAll (x :: xs) ∧ PyData.depthAll (x :: xs) ≤ 60 ∧
  ∀ (i : Nat) (y : V) (d : PyData), ys[i]? = some y → (x :: xs)[i]? = some d → d = PySem.W.maxD x xs → Q y H
theorem cr_maxDa (hc : X.calm = true) (hu : X.A.units + 64 < cLine) : CallR X (.builtin "max") (rMaxDa X.K) := by
  intro pins s σ H vs us Q I r h
  obtain ⟨a, ys, x, xs, rfl, hs, hd, ha, hdep, q⟩ := h
  obtain ⟨its, rv, hl, _⟩ := I.list hs
  rw [Vals.ref1 r]
  obtain ⟨as, hr⟩ := Dp.readsAll I _ _ _ hd rv
  have hr' : ReadsAll s.heap its.toArray.toList (x :: xs) as := hr
  have hn : its.toArray.size = xs.length + 1 := PySem.W.readsAll_len hr'
  refine PySem.call_max_walkH (PySem.W.iter_listW (A := X.A.in1) (I.ok.hd hc) hl.isList fun z ez W st hfp hw hk => ?_)
  refine ⟨_, _, _, _, _, _, _, s.heap, _, rfl, W, st, hfp, by omega, hw, hk, PySem.W.cmpIn_gt (A := X.A.in1) hr' ha (show X.A.units + 1 + _ < _ by omega), fun v s' hP m => ?_⟩
  obtain ⟨g, tk, rfl, keep⟩ := PySem.W.moved_old ez rfl m
  have fold := PySem.W.argBest_fold (fun a b => PySem.W.dataLt b a) PyData.none x xs xs.length (Nat.le_refl _)
  rw [List.take_length] at fold
  rw [show its.toArray.size - 1 = xs.length by omega] at hP
  have hP' : its[PySem.argBest (fun i j => PySem.W.dataLt ((x :: xs).getD j PyData.none) ((x :: xs).getD i PyData.none)) xs.length]? = some v := by simpa using hP
  obtain ⟨y, hy, ry⟩ := vals_back rv hP'
  refine ⟨y, H, I.kept (t' := tk) keep, ry, q _ y _ hy (List.getElem?_eq_getElem (Nat.lt_of_le_of_lt fold.1 (Nat.lt_succ_self _))) ?_⟩
  have e := fold.2
  rw [List.getD_eq_getElem?_getD, List.getElem?_eq_getElem (Nat.lt_of_le_of_lt fold.1 (Nat.lt_succ_self _))] at e
  exact e
end
/-- nothing is above the greatest -/
theorem maxD_top : ∀ (xs : List PyData) (x : PyData) (seen : List PyData), (∀ d ∈ seen, PySem.W.dataLt x d = false) → ∀ d ∈ seen ++ x :: xs, PySem.W.dataLt (PySem.W.maxD x xs) d = false
  | [], x, seen, h, d, hd => by
    rcases List.mem_append.mp hd with hd | hd
    · exact h d hd
    · cases List.mem_singleton.mp hd
      exact dataLt_irr _
  | y :: xs, x, seen, h, d, hd => by
    show PySem.W.dataLt (PySem.W.maxD (if PySem.W.dataLt x y = true then y else x) xs) d = false
    cases q : PySem.W.dataLt x y with
    | true =>
      rw [if_pos rfl]
      refine maxD_top xs y (seen ++ [x]) (fun e he => ?_) d (by simpa using hd)
      rcases List.mem_append.mp he with he | he
      · cases q2 : PySem.W.dataLt y e with
        | false => rfl
        | true =>
          have := PyProof.Rows.lex_trans _ _ _ q q2
          have h2 := h e he
          unfold PySem.W.dataLt at h2
          rw [h2] at this
          cases this
      · cases List.mem_singleton.mp he
        exact dataLt_asym q
    | false =>
      rw [if_neg Bool.false_ne_true]
      refine maxD_top xs x (seen ++ [y]) (fun e he => ?_) d ?_
      · rcases List.mem_append.mp he with he | he
        · exact h e he
        · cases List.mem_singleton.mp he
          exact q
      · rcases List.mem_append.mp hd with hd | hd
        · exact List.mem_append_left _ (List.mem_append_left _ hd)
        · rcases List.mem_cons.mp hd with hd | hd
          · subst hd
            exact List.mem_append_right _ List.mem_cons_self
          · rcases List.mem_cons.mp hd with hd | hd
            · subst hd
              exact List.mem_append_left _ (List.mem_append_right _ (List.mem_singleton.mpr rfl))
            · exact List.mem_append_right _ (List.mem_cons_of_mem _ hd)
end Ml
namespace Ml
open PySem PySem.Spec PyProof.Rows L2
/-! ### the head by a run in the kernel: facts of the written part, found by names -/
abbrev Ft : Type := PySem.W.Frag → Bool
/-- a def, a method, a property's function: where it stands, what it is -/
structure DefE where
  ad : PySem.W.Frag → Addr
  name : Str
  qual : Str
  params : Arguments
  body : List Stmt
  scope : Scope
def DefE.obs (K : PySem.W.Frag) (d : DefE) : He.FnV := match K.lookup (d.ad K) with
  | some ⟨_, _, .func fd, _⟩ => some (fd.name, fd.qualname, fd.params, fd.body, fd.scope, fd.globals, fd.closure, fd.defaults, fd.builtins)
  | _ => none
def DefE.val (d : DefE) : He.FnV := some (d.name, d.qual, d.params, .stmts d.body, d.scope, mainGlobals, [], .none, builtinsNs)
def DefE.ok (K : PySem.W.Frag) (d : DefE) : Bool := match K.lookup (d.ad K) with
  | some ⟨_, _, .func fd, _⟩ => PySem.W.codeIn K fd.code d.qual
  | _ => false
theorem DefE.at_ {K : PySem.W.Frag} {d : DefE} (e : d.obs K = d.val) (c : d.ok K = true) :
    ∃ oc od osl kV doc pm an cdv ct, K.lookup (d.ad K) = some ⟨oc, od, .func (PySem.W.fnOf d.name d.qual d.params d.body d.scope .none kV doc pm an cdv ct), osl⟩ ∧ PySem.W.codeIn K cdv d.qual = true := by
  unfold DefE.obs at e
  unfold DefE.ok at c
  cases q : K.lookup (d.ad K) with
  | none =>
    rw [q] at c
    cases c
  | some o =>
    obtain ⟨oc, od, dt, osl⟩ := o
    rw [q] at c e
    cases dt with
    | func fd =>
      obtain ⟨n1, n2, n3, n4, n5, n6, n7, n8, n9, n10, n11, n12, n13, n14, n15⟩ := fd
      have e2 : (some (n1, n2, n3, n4, n5, n6, n7, n8, n15) : He.FnV) = some (d.name, d.qual, d.params, .stmts d.body, d.scope, mainGlobals, [], .none, builtinsNs) := e
      simp only [Option.some.injEq, Prod.mk.injEq] at e2
      obtain ⟨h1, h2, h3, h4, h5, h6, h7, h8, h9⟩ := e2
      subst h1 h2 h3 h4 h5 h6 h7 h8 h9
      exact ⟨oc, od, osl, n9, n10, n11, n12, n13, n14, rfl, c⟩
    | _ => cases c
abbrev Al2 : Type := Bool × List He.FnV
def obs2 (fs : List (List Ft)) (fn : List DefE) (K : PySem.W.Frag) : Al2 := ((fs.all fun l => l.all fun f => f K) && fn.all fun d => d.ok K, fn.map fun d => d.obs K)
def val2 (fn : List DefE) : Al2 := (true, fn.map DefE.val)
def Says2 (fs : List (List Ft)) (fn : List DefE) (K : PySem.W.Frag) : Prop := obs2 fs fn K = val2 fn
/-- what an object names: no built-in, no class's bases (they are the module's names themselves) -/
def refsF (o : Obj) : List Addr := match o.data with
  | .seq its _ => its.toList.flatMap He.refV
  | .dict es _ => es.toList.flatMap fun e => He.refV e.val
  | .func fd => He.refV fd.code ++ He.refV fd.defaults ++ He.refV fd.kwdefaults
  | .cls cd => [cd.ns]
  | .fields vs => vs.toList.flatMap He.refV
  | _ => []
def froF (g : Addr → Option Obj) (as : List Addr) : List Addr := as.flatMap fun a => match g a with
  | some o => refsF o
  | none => []
/-- level by level, nothing twice but by chance -/
def asF (g : Addr → Option Obj) : Nat → List Addr → List Addr
  | 0, as => as
  | n + 1, as => as ++ asF g n (froF g as)
def kG (n : Nat) (g : Addr → Option Obj) : PySem.W.Frag := He.frG g (asF g n [mainGlobals])
def kOf (n : Nat) (s : PySem.W.SharedT) : PySem.W.Frag := kG n (HandSHeadRun.getT s)
def obsG2 (n : Nat) (fs : List (List Ft)) (fn : List DefE) (g : Addr → Option Obj) : Al2 := obs2 fs fn (kG n g)
def hook2 (n : Nat) (fs : List (List Ft)) (fn : List DefE) : PySem.W.Hook where
  α := Al2
  obs := fun s => obsG2 n fs fn s.heap.get?
  val := fun _ => val2 fn
  says := fun _ h => ∃ K : PySem.W.Frag, K.In h ∧ Says2 fs fn K
  of := fun _ _ e => ⟨_, He.frG_in, e⟩
  keeps := fun _ _ _ ⟨K, hK, c⟩ k => ⟨K, PySem.W.Frag.In.keeps hK k, c⟩
def ob2 (n : Nat) (fs : List (List Ft)) (fn : List DefE) (s : PySem.W.SharedT) : Al2 := obsG2 n fs fn (HandSHeadRun.getT s)
/-- the run of the top, looked at part by part: each part a run of its own -/
theorem run_of {r : PySem.W.OpenRow} {q : Program} {n M : Nat} {fs : List (List Ft)} {fn : List DefE} {loose : List Str} {w : World}
    (hA : ∀ os : OsState, (HandSHeadRun.endF (HandSHeadRun.stepQ (HandSHeadRun.denQ HandSHeadRun.tabQ) r.prog w) M r.prog w os).map (fun s => HandSHeadRun.looksF r.prog (PySem.W.boot_heap w.params) s.abs) = some true)
    (hB : ∀ os : OsState, (HandSHeadRun.endF (HandSHeadRun.stepQ (HandSHeadRun.denQ HandSHeadRun.tabQ) r.prog w) M r.prog w os).map (fun s => HandSHeadRun.seenQ q loose (PySem.importedModules r.prog.main.body) (fun s => PySem.W.xlAt q [] s && PySem.W.recOk r.toRowW.records s) s.abs) = some (PySem.W.openGood q loose))
    (hF : ∀ l ∈ fs, ∀ os : OsState, (HandSHeadRun.endF (HandSHeadRun.stepQ (HandSHeadRun.denQ HandSHeadRun.tabQ) r.prog w) M r.prog w os).map (fun s => l.all fun f => f (kOf n s)) = some true)
    (hD : ∀ os : OsState, (HandSHeadRun.endF (HandSHeadRun.stepQ (HandSHeadRun.denQ HandSHeadRun.tabQ) r.prog w) M r.prog w os).map (fun s => (fn.all fun d => d.ok (kOf n s), fn.map fun d => d.obs (kOf n s))) = some (true, fn.map DefE.val)) :
    HandSHeadRun.RunEq r q (hook2 n fs fn) (ob2 n fs fn) M loose w := fun os => by
  obtain ⟨s, hs, h1⟩ := Option.map_eq_some_iff.mp (hA os)
  have h2 := hB os
  have h4 := hD os
  rw [hs] at h2 h4 ⊢
  have h2 := Option.some.inj h2
  have h4 := Option.some.inj h4
  have h3 : (fs.all fun l => l.all fun f => f (kOf n s)) = true := List.all_eq_true.mpr fun l hl => by
    have h3 := hF l hl os
    rw [hs] at h3
    exact Option.some.inj h3
  have h4a := congrArg Prod.fst h4
  have h4b := congrArg Prod.snd h4
  have h5 : ob2 n fs fn s = val2 fn := by
    show (((fs.all fun l => l.all fun f => f (kOf n s)) && fn.all fun d => d.ok (kOf n s), fn.map fun d => d.obs (kOf n s)) : Al2) = (true, fn.map DefE.val)
    rw [h3, show (fn.all fun d => d.ok (kOf n s)) = true from h4a, show (fn.map fun d => d.obs (kOf n s)) = fn.map DefE.val from h4b]
    rfl
  exact congrArg some (Prod.ext h1 (Prod.ext h2 h5))
section
variable {fs : List (List Ft)} {fn : List DefE} {K : PySem.W.Frag}
theorem Says2.fact (c : Says2 fs fn K) (i j : Nat) {l : List Ft} {f : Ft} (hi : fs[i]? = some l := by rfl) (hj : l[j]? = some f := by rfl) : f K = true := by
  have c1 := (He.ba (show ((fs.all fun l => l.all fun f => f K) && fn.all fun d => d.ok K) = true from congrArg (fun z : Al2 => z.1) c)).1
  exact List.all_eq_true.mp (List.all_eq_true.mp c1 l (List.mem_of_getElem? hi)) f (List.mem_of_getElem? hj)
theorem Says2.def_ (c : Says2 fs fn K) (i : Nat) {d : DefE} (h : fn[i]? = some d := by rfl) :
    ∃ oc od osl kV doc pm an cdv ct, K.lookup (d.ad K) = some ⟨oc, od, .func (PySem.W.fnOf d.name d.qual d.params d.body d.scope .none kV doc pm an cdv ct), osl⟩ ∧ PySem.W.codeIn K cdv d.qual = true := by
  have c2 := (He.ba (show ((fs.all fun l => l.all fun f => f K) && fn.all fun d => d.ok K) = true from congrArg (fun z : Al2 => z.1) c)).2
  have e : fn.map (fun d => d.obs K) = fn.map DefE.val := congrArg (fun z : Al2 => z.2) c
  have e2 : (fn.map fun d => d.obs K)[i]? = (fn.map DefE.val)[i]? := by rw [e]
  rw [List.getElem?_map, List.getElem?_map, h] at e2
  exact DefE.at_ (Option.some.inj e2) (List.all_eq_true.mp c2 d (List.mem_of_getElem? h))
end
/-! ### what a fact names, as a function of the written part -/
def tkG (K : PySem.W.Frag) (x : Str) : Tok := match PySem.W.nsIn K mainGlobals x with
  | some (some (.int _ t)) => t
  | _ => 0
/-! ### a dict of the module with texts as keys: its hashes hang on the world -/
/-! ### the same head, with what hangs on the world -/
abbrev Al3 : Type := Al2 × List Int
def obsG3 (n : Nat) (fs : List (List Ft)) (fn : List DefE) (hx : PySem.W.Frag → List Int) (g : Addr → Option Obj) : Al3 := (obs2 fs fn (kG n g), hx (kG n g))
def hook3 (n : Nat) (fs : List (List Ft)) (fn : List DefE) (hx : PySem.W.Frag → List Int) (hv : World → List Int) : PySem.W.Hook where
  α := Al3
  obs := fun s => obsG3 n fs fn hx s.heap.get?
  val := fun w => (val2 fn, hv w)
  says := fun w h => ∃ K : PySem.W.Frag, K.In h ∧ Says2 fs fn K ∧ hx K = hv w
  of := fun _ _ e => ⟨_, He.frG_in, congrArg (fun z : Al3 => z.1) e, congrArg (fun z : Al3 => z.2) e⟩
  keeps := fun _ _ _ ⟨K, hK, c⟩ k => ⟨K, PySem.W.Frag.In.keeps hK k, c⟩
def ob3 (n : Nat) (fs : List (List Ft)) (fn : List DefE) (hx : PySem.W.Frag → List Int) (s : PySem.W.SharedT) : Al3 := obsG3 n fs fn hx (HandSHeadRun.getT s)
theorem ob3_eq {n : Nat} {fs : List (List Ft)} {fn : List DefE} {hx : PySem.W.Frag → List Int} {hv : World → List Int} (s : PySem.W.SharedT) : ob3 n fs fn hx s = (hook3 n fs fn hx hv).obs s.abs := by
  have e : HandSHeadRun.getT s = s.abs.heap.get? := funext (HandSHeadRun.getT_eq s)
  show obsG3 n fs fn hx (HandSHeadRun.getT s) = obsG3 n fs fn hx s.abs.heap.get?
  rw [e]
theorem run_of3 {r : PySem.W.OpenRow} {q : Program} {n M : Nat} {fs : List (List Ft)} {fn : List DefE} {hx : PySem.W.Frag → List Int} {hv : World → List Int} {loose : List Str} {w : World}
    (hA : ∀ os : OsState, (HandSHeadRun.endF (HandSHeadRun.stepQ (HandSHeadRun.denQ HandSHeadRun.tabQ) r.prog w) M r.prog w os).map (fun s => HandSHeadRun.looksF r.prog (PySem.W.boot_heap w.params) s.abs) = some true)
    (hB : ∀ os : OsState, (HandSHeadRun.endF (HandSHeadRun.stepQ (HandSHeadRun.denQ HandSHeadRun.tabQ) r.prog w) M r.prog w os).map (fun s => HandSHeadRun.seenQ q loose (PySem.importedModules r.prog.main.body) (fun s => PySem.W.xlAt q [] s && PySem.W.recOk r.toRowW.records s) s.abs) = some (PySem.W.openGood q loose))
    (hF : ∀ l ∈ fs, ∀ os : OsState, (HandSHeadRun.endF (HandSHeadRun.stepQ (HandSHeadRun.denQ HandSHeadRun.tabQ) r.prog w) M r.prog w os).map (fun s => l.all fun f => f (kOf n s)) = some true)
    (hD : ∀ os : OsState, (HandSHeadRun.endF (HandSHeadRun.stepQ (HandSHeadRun.denQ HandSHeadRun.tabQ) r.prog w) M r.prog w os).map (fun s => ((fn.all fun d => d.ok (kOf n s), fn.map fun d => d.obs (kOf n s)), hx (kOf n s))) = some ((true, fn.map DefE.val), hv w)) :
    HandSHeadRun.RunEq r q (hook3 n fs fn hx hv) (ob3 n fs fn hx) M loose w := fun os => by
  have hR := run_of (fn := fn) hA hB hF (fun os => by
    obtain ⟨s, hs, h1⟩ := Option.map_eq_some_iff.mp (hD os)
    rw [hs]
    exact congrArg some (congrArg (fun z => z.1) h1)) os
  obtain ⟨s, hs, h1⟩ := Option.map_eq_some_iff.mp (hA os)
  have h4 := hD os
  rw [hs] at hR h4 ⊢
  have h4 := congrArg (fun z => z.2) (Option.some.inj h4)
  have h5 := Option.some.inj hR
  have h6 := congrArg (fun z => z.1) h5
  have h7 := congrArg (fun z => z.2.1) h5
  have h8 := congrArg (fun z => z.2.2) h5
  exact congrArg some (Prod.ext h6 (Prod.ext h7 (Prod.ext h8 h4)))
end Ml
namespace Ml
open PySem PySem.Spec PyProof.Rows L2
def topS (i : Nat) : Stmt := PySem.Challenge.pw_mergelevels_k33_whole_least_sums_and_joi.main.body.getD i (.Pass ⟨0, 0, 0, 0⟩)
abbrev s_is_whole : Stmt := topS 5
abbrev N_is_whole : List Str := ["value"]
theorem sc_is_whole : FnScope N_is_whole ["value"] (defScope s_is_whole) := ⟨rfl, rfl, rfl, by decide +kernel, rfl, by decide +kernel, by decide +kernel⟩
abbrev s_is_item : Stmt := topS 6
abbrev N_is_item : List Str := ["table", "value"]
theorem sc_is_item : FnScope N_is_item ["table", "value"] (defScope s_is_item) := ⟨rfl, rfl, rfl, by decide +kernel, rfl, by decide +kernel, by decide +kernel⟩
abbrev s_is_pair : Stmt := topS 7
abbrev N_is_pair : List Str := ["table", "value", "one", "other"]
theorem sc_is_pair : FnScope N_is_pair ["table", "value"] (defScope s_is_pair) := ⟨rfl, rfl, rfl, by decide +kernel, rfl, by decide +kernel, by decide +kernel⟩
abbrev s_level_between : Stmt := topS 8
abbrev N_level_between : List Str := ["table", "one", "other"]
theorem sc_level_between : FnScope N_level_between ["table", "one", "other"] (defScope s_level_between) := ⟨rfl, rfl, rfl, by decide +kernel, rfl, by decide +kernel, by decide +kernel⟩
abbrev s_pairs_of : Stmt := topS 9
abbrev N_pairs_of : List Str := ["table", "count", "one", "other"]
theorem sc_pairs_of : FnScope N_pairs_of ["table"] (defScope s_pairs_of) := ⟨rfl, rfl, rfl, by decide +kernel, rfl, by decide +kernel, by decide +kernel⟩
abbrev s_is_even : Stmt := topS 10
abbrev N_is_even : List Str := ["table", "one", "other", "third", "levels"]
theorem sc_is_even : FnScope N_is_even ["table", "one", "other", "third"] (defScope s_is_even) := ⟨rfl, rfl, rfl, by decide +kernel, rfl, by decide +kernel, by decide +kernel⟩
abbrev s_uneven_items : Stmt := topS 11
abbrev N_uneven_items : List Str := ["table", "one", "other", "third"]
theorem sc_uneven_items : FnScope N_uneven_items ["table"] (defScope s_uneven_items) := ⟨rfl, rfl, rfl, by decide +kernel, rfl, by decide +kernel, by decide +kernel⟩
abbrev s_is_nested : Stmt := topS 12
abbrev N_is_nested : List Str := ["table"]
theorem sc_is_nested : FnScope N_is_nested ["table"] (defScope s_is_nested) := ⟨rfl, rfl, rfl, by decide +kernel, rfl, by decide +kernel, by decide +kernel⟩
abbrev s_level_grid : Stmt := topS 14
abbrev N_level_grid : List Str := ["table", "count", "one", "other"]
theorem sc_level_grid : FnScope N_level_grid ["table"] (defScope s_level_grid) := ⟨rfl, rfl, rfl, by decide +kernel, rfl, by decide +kernel, by decide +kernel⟩
abbrev s_lowest_grid : Stmt := topS 15
abbrev N_lowest_grid : List Str := ["grid", "lowest", "middle", "onward", "row", "direct", "step"]
theorem sc_lowest_grid : FnScope N_lowest_grid ["grid"] (defScope s_lowest_grid) := ⟨rfl, rfl, rfl, by decide +kernel, rfl, by decide +kernel, by decide +kernel⟩
abbrev s_join_grid : Stmt := topS 16
abbrev N_join_grid : List Str := ["table"]
theorem sc_join_grid : FnScope N_join_grid ["table"] (defScope s_join_grid) := ⟨rfl, rfl, rfl, by decide +kernel, rfl, by decide +kernel, by decide +kernel⟩
abbrev s_nested_below : Stmt := topS 17
abbrev N_nested_below : List Str := ["table", "at", "row"]
theorem sc_nested_below : FnScope N_nested_below ["table"] (defScope s_nested_below) := ⟨rfl, rfl, rfl, by decide +kernel, rfl, by decide +kernel, by decide +kernel⟩
abbrev s_own_sets : Stmt := topS 19
abbrev N_own_sets : List Str := ["members", "member"]
theorem sc_own_sets : FnScope N_own_sets ["members"] (defScope s_own_sets) := ⟨rfl, rfl, rfl, by decide +kernel, rfl, by decide +kernel, by decide +kernel⟩
abbrev s_united : Stmt := topS 20
abbrev N_united : List Str := ["names", "one", "other", "old", "new", "member"]
theorem sc_united : FnScope N_united ["names", "one", "other"] (defScope s_united) := ⟨rfl, rfl, rfl, by decide +kernel, rfl, by decide +kernel, by decide +kernel⟩
abbrev s_connects_all : Stmt := topS 21
abbrev N_connects_all : List Str := ["table", "pairs", "names", "one", "other", "item"]
theorem sc_connects_all : FnScope N_connects_all ["table", "pairs"] (defScope s_connects_all) := ⟨rfl, rfl, rfl, by decide +kernel, rfl, by decide +kernel, by decide +kernel⟩
abbrev s_is_spanning : Stmt := topS 22
abbrev N_is_spanning : List Str := ["table", "value", "part"]
theorem sc_is_spanning : FnScope N_is_spanning ["table", "value"] (defScope s_is_spanning) := ⟨rfl, rfl, rfl, by decide +kernel, rfl, by decide +kernel, by decide +kernel⟩
abbrev s_sum_of : Stmt := topS 23
abbrev N_sum_of : List Str := ["table", "tree", "one", "other"]
theorem sc_sum_of : FnScope N_sum_of ["table", "tree"] (defScope s_sum_of) := ⟨rfl, rfl, rfl, by decide +kernel, rfl, by decide +kernel, by decide +kernel⟩
abbrev s_least_tree : Stmt := topS 24
abbrev N_least_tree : List Str := ["table", "steps", "names", "tree", "level", "low", "high", "one", "other"]
theorem sc_least_tree : FnScope N_least_tree ["table"] (defScope s_least_tree) := ⟨rfl, rfl, rfl, by decide +kernel, rfl, by decide +kernel, by decide +kernel⟩
abbrev s_is_least_tree : Stmt := topS 25
abbrev N_is_least_tree : List Str := ["table", "value"]
theorem sc_is_least_tree : FnScope N_is_least_tree ["table", "value"] (defScope s_is_least_tree) := ⟨rfl, rfl, rfl, by decide +kernel, rfl, by decide +kernel, by decide +kernel⟩
abbrev s_tree_levels : Stmt := topS 26
abbrev N_tree_levels : List Str := ["table", "value", "grid", "one", "other", "at", "row"]
theorem sc_tree_levels : FnScope N_tree_levels ["table", "value"] (defScope s_tree_levels) := ⟨rfl, rfl, rfl, by decide +kernel, rfl, by decide +kernel, by decide +kernel⟩
abbrev s_L_draws : Stmt := topS 28
abbrev N_L_draws : List Str := ["_law_script", "_law_cells", "_law_cell"]
theorem sc_L_draws : FnScope N_L_draws ["_law_script"] (defScope s_L_draws) := ⟨rfl, rfl, rfl, by decide +kernel, rfl, by decide +kernel, by decide +kernel⟩
abbrev s_L_next : Stmt := topS 29
abbrev N_L_next : List Str := ["_law_drawn", "_law_many", "_law_cells", "_law_turn", "_law_rests", "_law_spot", "_law_digit", "_law_mixed", "_law_again"]
theorem sc_L_next : FnScope N_L_next ["_law_drawn", "_law_many"] (defScope s_L_next) := ⟨rfl, rfl, rfl, by decide +kernel, rfl, by decide +kernel, by decide +kernel⟩
abbrev s_L_one : Stmt := topS 30
abbrev N_L_one : List Str := ["_law_drawn", "_law_items"]
theorem sc_L_one : FnScope N_L_one ["_law_drawn", "_law_items"] (defScope s_L_one) := ⟨rfl, rfl, rfl, by decide +kernel, rfl, by decide +kernel, by decide +kernel⟩
abbrev s_L_equal : Stmt := topS 31
abbrev N_L_equal : List Str := ["_law_one_here", "_law_other", "_law_a", "_law_b"]
theorem sc_L_equal : FnScope N_L_equal ["_law_one_here", "_law_other"] (defScope s_L_equal) := ⟨rfl, rfl, rfl, by decide +kernel, rfl, by decide +kernel, by decide +kernel⟩
abbrev s_L_count : Stmt := topS 32
abbrev N_L_count : List Str := ["_law_drawn", "_law_most"]
theorem sc_L_count : FnScope N_L_count ["_law_drawn", "_law_most"] (defScope s_L_count) := ⟨rfl, rfl, rfl, by decide +kernel, rfl, by decide +kernel, by decide +kernel⟩
abbrev s_L_grades : Stmt := topS 33
abbrev N_L_grades : List Str := ["_law_drawn", "_law_way", "_law_many", "_law_wide", "_law_found", "_law_k"]
theorem sc_L_grades : FnScope N_L_grades ["_law_drawn"] (defScope s_L_grades) := ⟨rfl, rfl, rfl, by decide +kernel, rfl, by decide +kernel, by decide +kernel⟩
abbrev s_L_level : Stmt := topS 34
abbrev N_L_level : List Str := ["_law_table_here", "_law_one_here", "_law_other", "_law_low", "_law_high"]
theorem sc_L_level : FnScope N_L_level ["_law_table_here", "_law_one_here", "_law_other"] (defScope s_L_level) := ⟨rfl, rfl, rfl, by decide +kernel, rfl, by decide +kernel, by decide +kernel⟩
abbrev s_L_nested : Stmt := topS 35
abbrev N_L_nested : List Str := ["_law_drawn", "_law_count_here", "_law_grades_here", "_law_rows", "_law_near", "_law_level_here", "_law_row", "_law_k"]
theorem sc_L_nested : FnScope N_L_nested ["_law_drawn", "_law_count_here", "_law_grades_here"] (defScope s_L_nested) := ⟨rfl, rfl, rfl, by decide +kernel, rfl, by decide +kernel, by decide +kernel⟩
abbrev s_L_raised : Stmt := topS 36
abbrev N_L_raised : List Str := ["_law_drawn", "_law_table_here", "_law_grades_here", "_law_found", "_law_row", "_law_level_here"]
theorem sc_L_raised : FnScope N_L_raised ["_law_drawn", "_law_table_here", "_law_grades_here"] (defScope s_L_raised) := ⟨rfl, rfl, rfl, by decide +kernel, rfl, by decide +kernel, by decide +kernel⟩
abbrev s_L_levels : Stmt := topS 37
abbrev N_L_levels : List Str := ["_law_drawn", "_law_many", "_law_grades_here", "_law_k"]
theorem sc_L_levels : FnScope N_L_levels ["_law_drawn", "_law_many", "_law_grades_here"] (defScope s_L_levels) := ⟨rfl, rfl, rfl, by decide +kernel, rfl, by decide +kernel, by decide +kernel⟩
abbrev s_L_any : Stmt := topS 38
abbrev N_L_any : List Str := ["_law_drawn", "_law_many", "_law_wide", "_law_k"]
theorem sc_L_any : FnScope N_L_any ["_law_drawn", "_law_many", "_law_wide"] (defScope s_L_any) := ⟨rfl, rfl, rfl, by decide +kernel, rfl, by decide +kernel, by decide +kernel⟩
abbrev s_L_table : Stmt := topS 39
abbrev N_L_table : List Str := ["_law_drawn", "_law_count_here", "_law_grades_here", "_law_way", "_law_one_here", "_law_wide", "_law_table_here", "_law_other", "_law_level_here", "_law_row"]
theorem sc_L_table : FnScope N_L_table ["_law_drawn", "_law_count_here"] (defScope s_L_table) := ⟨rfl, rfl, rfl, by decide +kernel, rfl, by decide +kernel, by decide +kernel⟩
abbrev s_L_pairs : Stmt := topS 40
abbrev N_L_pairs : List Str := ["_law_count_here", "_law_found", "_law_one_here", "_law_other"]
theorem sc_L_pairs : FnScope N_L_pairs ["_law_count_here"] (defScope s_L_pairs) := ⟨rfl, rfl, rfl, by decide +kernel, rfl, by decide +kernel, by decide +kernel⟩
abbrev s_L_is_connected : Stmt := topS 41
abbrev N_L_is_connected : List Str := ["_law_count_here", "_law_pairs_here", "_law_labels", "_law_one_here", "_law_other", "_law_old", "_law_new", "_law_label"]
theorem sc_L_is_connected : FnScope N_L_is_connected ["_law_count_here", "_law_pairs_here"] (defScope s_L_is_connected) := ⟨rfl, rfl, rfl, by decide +kernel, rfl, by decide +kernel, by decide +kernel⟩
abbrev s_L_sum : Stmt := topS 42
abbrev N_L_sum : List Str := ["_law_table_here", "_law_pairs_here", "_law_one_here", "_law_other"]
theorem sc_L_sum : FnScope N_L_sum ["_law_table_here", "_law_pairs_here"] (defScope s_L_sum) := ⟨rfl, rfl, rfl, by decide +kernel, rfl, by decide +kernel, by decide +kernel⟩
abbrev s_L_all_trees : Stmt := topS 43
abbrev N_L_all_trees : List Str := ["_law_count_here", "_law_rows", "_law_turn", "_law_longer", "_law_row", "_law_pair"]
theorem sc_L_all_trees : FnScope N_L_all_trees ["_law_count_here"] (defScope s_L_all_trees) := ⟨rfl, rfl, rfl, by decide +kernel, rfl, by decide +kernel, by decide +kernel⟩
abbrev s_L_shuffled : Stmt := topS 44
abbrev N_L_shuffled : List Str := ["_law_drawn", "_law_count_here", "_law_left", "_law_k"]
theorem sc_L_shuffled : FnScope N_L_shuffled ["_law_drawn", "_law_count_here"] (defScope s_L_shuffled) := ⟨rfl, rfl, rfl, by decide +kernel, rfl, by decide +kernel, by decide +kernel⟩
abbrev s_L_some_tree : Stmt := topS 45
abbrev N_L_some_tree : List Str := ["_law_drawn", "_law_count_here", "_law_names", "_law_way", "_law_found", "_law_k", "_law_near"]
theorem sc_L_some_tree : FnScope N_L_some_tree ["_law_drawn", "_law_count_here"] (defScope s_L_some_tree) := ⟨rfl, rfl, rfl, by decide +kernel, rfl, by decide +kernel, by decide +kernel⟩
abbrev s_L_lowest_tree : Stmt := topS 46
abbrev N_L_lowest_tree : List Str := ["_law_drawn", "_law_table_here", "_law_count_here", "_law_ranks", "_law_rows", "_law_labels", "_law_found", "_law_level_here", "_law_rank", "_law_one_here", "_law_other", "_law_old", "_law_new", "_law_k", "_law_pair", "_law_label"]
theorem sc_L_lowest_tree : FnScope N_L_lowest_tree ["_law_drawn", "_law_table_here"] (defScope s_L_lowest_tree) := ⟨rfl, rfl, rfl, by decide +kernel, rfl, by decide +kernel, by decide +kernel⟩
abbrev s_L_tree_right : Stmt := topS 47
abbrev N_L_tree_right : List Str := ["_law_table_here", "_law_joining", "_law_first", "_law_tree", "_law_steps", "_law_gaps", "_law_one_here", "_law_other", "_law_more", "_law_told", "_law_gap"]
theorem sc_L_tree_right : FnScope N_L_tree_right ["_law_table_here", "_law_joining", "_law_first", "_law_tree"] (defScope s_L_tree_right) := ⟨rfl, rfl, rfl, by decide +kernel, rfl, by decide +kernel, by decide +kernel⟩
abbrev s_L_exchanged : Stmt := topS 48
abbrev N_L_exchanged : List Str := ["_law_table_here", "_law_first", "_law_tree", "_law_pair", "_law_rows", "_law_old", "_law_rest", "_law_level_here", "_law_one_here"]
theorem sc_L_exchanged : FnScope N_L_exchanged ["_law_table_here", "_law_first", "_law_tree", "_law_pair"] (defScope s_L_exchanged) := ⟨rfl, rfl, rfl, by decide +kernel, rfl, by decide +kernel, by decide +kernel⟩
abbrev s_L_led_right : Stmt := topS 49
abbrev N_L_led_right : List Str := ["_law_table_here", "_law_joining", "_law_first", "_law_tree", "_law_pair", "_law_is_right"]
theorem sc_L_led_right : FnScope N_L_led_right ["_law_table_here", "_law_joining", "_law_first", "_law_tree"] (defScope s_L_led_right) := ⟨rfl, rfl, rfl, by decide +kernel, rfl, by decide +kernel, by decide +kernel⟩
abbrev s_law : Stmt := topS 50
abbrev N_law : List Str := ["_law_script", "_law_drawn", "_law_turn", "_law_table_here", "_law_joining", "_law_first", "_law_tree"]
theorem sc_law : FnScope N_law ["_law_script"] (defScope s_law) := ⟨rfl, rfl, rfl, by decide +kernel, rfl, by decide +kernel, by decide +kernel⟩
def hfs0 : List Ft := [
  fun K => decide (PySem.W.nsIn K mainGlobals "is_whole" = some (some (.ref (He.ga K "is_whole")))),
  fun K => PySem.W.keepIn K (.ref (He.ga K "is_whole")),
  fun K => decide (PySem.W.nsIn K mainGlobals "is_item" = some (some (.ref (He.ga K "is_item")))),
  fun K => PySem.W.keepIn K (.ref (He.ga K "is_item")),
  fun K => decide (PySem.W.nsIn K mainGlobals "is_pair" = some (some (.ref (He.ga K "is_pair")))),
  fun K => PySem.W.keepIn K (.ref (He.ga K "is_pair")),
  fun K => decide (PySem.W.nsIn K mainGlobals "level_between" = some (some (.ref (He.ga K "level_between")))),
  fun K => PySem.W.keepIn K (.ref (He.ga K "level_between")),
  fun K => decide (PySem.W.nsIn K mainGlobals "pairs_of" = some (some (.ref (He.ga K "pairs_of")))),
  fun K => PySem.W.keepIn K (.ref (He.ga K "pairs_of")),
  fun K => decide (PySem.W.nsIn K mainGlobals "is_even" = some (some (.ref (He.ga K "is_even")))),
  fun K => PySem.W.keepIn K (.ref (He.ga K "is_even")),
  fun K => decide (PySem.W.nsIn K mainGlobals "uneven_items" = some (some (.ref (He.ga K "uneven_items")))),
  fun K => PySem.W.keepIn K (.ref (He.ga K "uneven_items")),
  fun K => decide (PySem.W.nsIn K mainGlobals "is_nested" = some (some (.ref (He.ga K "is_nested")))),
  fun K => PySem.W.keepIn K (.ref (He.ga K "is_nested")),
  fun K => decide (PySem.W.nsIn K mainGlobals "level_grid" = some (some (.ref (He.ga K "level_grid")))),
  fun K => PySem.W.keepIn K (.ref (He.ga K "level_grid")),
  fun K => decide (PySem.W.nsIn K mainGlobals "lowest_grid" = some (some (.ref (He.ga K "lowest_grid")))),
  fun K => PySem.W.keepIn K (.ref (He.ga K "lowest_grid")),
  fun K => decide (PySem.W.nsIn K mainGlobals "join_grid" = some (some (.ref (He.ga K "join_grid")))),
  fun K => PySem.W.keepIn K (.ref (He.ga K "join_grid")),
  fun K => decide (PySem.W.nsIn K mainGlobals "nested_below" = some (some (.ref (He.ga K "nested_below")))),
  fun K => PySem.W.keepIn K (.ref (He.ga K "nested_below")),
  fun K => decide (PySem.W.nsIn K mainGlobals "own_sets" = some (some (.ref (He.ga K "own_sets")))),
  fun K => PySem.W.keepIn K (.ref (He.ga K "own_sets")),
  fun K => decide (PySem.W.nsIn K mainGlobals "united" = some (some (.ref (He.ga K "united")))),
  fun K => PySem.W.keepIn K (.ref (He.ga K "united")),
  fun K => decide (PySem.W.nsIn K mainGlobals "connects_all" = some (some (.ref (He.ga K "connects_all")))),
  fun K => PySem.W.keepIn K (.ref (He.ga K "connects_all"))]
def hfs1 : List Ft := [
  fun K => decide (PySem.W.nsIn K mainGlobals "is_spanning" = some (some (.ref (He.ga K "is_spanning")))),
  fun K => PySem.W.keepIn K (.ref (He.ga K "is_spanning")),
  fun K => decide (PySem.W.nsIn K mainGlobals "sum_of" = some (some (.ref (He.ga K "sum_of")))),
  fun K => PySem.W.keepIn K (.ref (He.ga K "sum_of")),
  fun K => decide (PySem.W.nsIn K mainGlobals "least_tree" = some (some (.ref (He.ga K "least_tree")))),
  fun K => PySem.W.keepIn K (.ref (He.ga K "least_tree")),
  fun K => decide (PySem.W.nsIn K mainGlobals "is_least_tree" = some (some (.ref (He.ga K "is_least_tree")))),
  fun K => PySem.W.keepIn K (.ref (He.ga K "is_least_tree")),
  fun K => decide (PySem.W.nsIn K mainGlobals "tree_levels" = some (some (.ref (He.ga K "tree_levels")))),
  fun K => PySem.W.keepIn K (.ref (He.ga K "tree_levels")),
  fun K => decide (PySem.W.nsIn K mainGlobals "_law_draws" = some (some (.ref (He.ga K "_law_draws")))),
  fun K => PySem.W.keepIn K (.ref (He.ga K "_law_draws")),
  fun K => decide (PySem.W.nsIn K mainGlobals "_law_next" = some (some (.ref (He.ga K "_law_next")))),
  fun K => PySem.W.keepIn K (.ref (He.ga K "_law_next")),
  fun K => decide (PySem.W.nsIn K mainGlobals "_law_one" = some (some (.ref (He.ga K "_law_one")))),
  fun K => PySem.W.keepIn K (.ref (He.ga K "_law_one")),
  fun K => decide (PySem.W.nsIn K mainGlobals "_law_equal" = some (some (.ref (He.ga K "_law_equal")))),
  fun K => PySem.W.keepIn K (.ref (He.ga K "_law_equal")),
  fun K => decide (PySem.W.nsIn K mainGlobals "_law_count" = some (some (.ref (He.ga K "_law_count")))),
  fun K => PySem.W.keepIn K (.ref (He.ga K "_law_count")),
  fun K => decide (PySem.W.nsIn K mainGlobals "_law_grades" = some (some (.ref (He.ga K "_law_grades")))),
  fun K => PySem.W.keepIn K (.ref (He.ga K "_law_grades")),
  fun K => decide (PySem.W.nsIn K mainGlobals "_law_level" = some (some (.ref (He.ga K "_law_level")))),
  fun K => PySem.W.keepIn K (.ref (He.ga K "_law_level")),
  fun K => decide (PySem.W.nsIn K mainGlobals "_law_nested" = some (some (.ref (He.ga K "_law_nested")))),
  fun K => PySem.W.keepIn K (.ref (He.ga K "_law_nested")),
  fun K => decide (PySem.W.nsIn K mainGlobals "_law_raised" = some (some (.ref (He.ga K "_law_raised")))),
  fun K => PySem.W.keepIn K (.ref (He.ga K "_law_raised")),
  fun K => decide (PySem.W.nsIn K mainGlobals "_law_levels" = some (some (.ref (He.ga K "_law_levels")))),
  fun K => PySem.W.keepIn K (.ref (He.ga K "_law_levels"))]
def hfs2 : List Ft := [
  fun K => decide (PySem.W.nsIn K mainGlobals "_law_any" = some (some (.ref (He.ga K "_law_any")))),
  fun K => PySem.W.keepIn K (.ref (He.ga K "_law_any")),
  fun K => decide (PySem.W.nsIn K mainGlobals "_law_table" = some (some (.ref (He.ga K "_law_table")))),
  fun K => PySem.W.keepIn K (.ref (He.ga K "_law_table")),
  fun K => decide (PySem.W.nsIn K mainGlobals "_law_pairs" = some (some (.ref (He.ga K "_law_pairs")))),
  fun K => PySem.W.keepIn K (.ref (He.ga K "_law_pairs")),
  fun K => decide (PySem.W.nsIn K mainGlobals "_law_is_connected" = some (some (.ref (He.ga K "_law_is_connected")))),
  fun K => PySem.W.keepIn K (.ref (He.ga K "_law_is_connected")),
  fun K => decide (PySem.W.nsIn K mainGlobals "_law_sum" = some (some (.ref (He.ga K "_law_sum")))),
  fun K => PySem.W.keepIn K (.ref (He.ga K "_law_sum")),
  fun K => decide (PySem.W.nsIn K mainGlobals "_law_all_trees" = some (some (.ref (He.ga K "_law_all_trees")))),
  fun K => PySem.W.keepIn K (.ref (He.ga K "_law_all_trees")),
  fun K => decide (PySem.W.nsIn K mainGlobals "_law_shuffled" = some (some (.ref (He.ga K "_law_shuffled")))),
  fun K => PySem.W.keepIn K (.ref (He.ga K "_law_shuffled")),
  fun K => decide (PySem.W.nsIn K mainGlobals "_law_some_tree" = some (some (.ref (He.ga K "_law_some_tree")))),
  fun K => PySem.W.keepIn K (.ref (He.ga K "_law_some_tree")),
  fun K => decide (PySem.W.nsIn K mainGlobals "_law_lowest_tree" = some (some (.ref (He.ga K "_law_lowest_tree")))),
  fun K => PySem.W.keepIn K (.ref (He.ga K "_law_lowest_tree")),
  fun K => decide (PySem.W.nsIn K mainGlobals "_law_tree_right" = some (some (.ref (He.ga K "_law_tree_right")))),
  fun K => PySem.W.keepIn K (.ref (He.ga K "_law_tree_right")),
  fun K => decide (PySem.W.nsIn K mainGlobals "_law_exchanged" = some (some (.ref (He.ga K "_law_exchanged")))),
  fun K => PySem.W.keepIn K (.ref (He.ga K "_law_exchanged")),
  fun K => decide (PySem.W.nsIn K mainGlobals "_law_led_right" = some (some (.ref (He.ga K "_law_led_right")))),
  fun K => PySem.W.keepIn K (.ref (He.ga K "_law_led_right")),
  fun K => decide (PySem.W.nsIn K mainGlobals "law" = some (some (.ref (He.ga K "law")))),
  fun K => PySem.W.keepIn K (.ref (He.ga K "law")),
  fun K => decide (PySem.W.nsIn K mainGlobals "LEVEL" = some (some (.int 1000000000000 (tkG K "LEVEL")))),
  fun K => decide (PySem.W.nsIn K mainGlobals "len" = some none),
  fun K => decide (PySem.W.nsIn K mainGlobals "list" = some none),
  fun K => decide (PySem.W.nsIn K mainGlobals "int" = some none)]
def hfs3 : List Ft := [
  fun K => decide (PySem.W.nsIn K mainGlobals "range" = some none),
  fun K => decide (PySem.W.nsIn K mainGlobals "sorted" = some none),
  fun K => decide (PySem.W.nsIn K mainGlobals "set" = some none),
  fun K => decide (PySem.W.nsIn K mainGlobals "tuple" = some none),
  fun K => decide (PySem.W.nsIn K mainGlobals "min" = some none),
  fun K => decide (PySem.W.nsIn K mainGlobals "max" = some none),
  fun K => decide (PySem.W.nsIn K mainGlobals "isinstance" = some none),
  fun K => decide (PySem.W.nsIn K mainGlobals "bool" = some none),
  fun K => decide (PySem.W.nsIn K mainGlobals "str" = some none),
  fun K => decide (PySem.W.nsIn K mainGlobals "all" = some none),
  fun K => decide (PySem.W.nsIn K mainGlobals "zip" = some none),
  fun K => decide (PySem.W.nsIn K mainGlobals "repr" = some none),
  fun K => decide (PySem.W.nsIn K mainGlobals "enumerate" = some none),
  fun K => decide (PySem.W.nsIn K mainGlobals "abs" = some none),
  fun K => decide (PySem.W.nsIn K mainGlobals "sum" = some none),
  fun K => decide (PySem.W.nsIn K mainGlobals "dict" = some none)]
def hfp0 : List Ft := hfs0 ++ hfs1 ++ hfs2 ++ hfs3
def hfs : List (List Ft) := [hfp0]
def hfn0 : List DefE := [
  ⟨fun K => (He.ga K "is_whole"), "is_whole", "is_whole", (defArgs s_is_whole), (defBody s_is_whole), (defScope s_is_whole)⟩,
  ⟨fun K => (He.ga K "is_item"), "is_item", "is_item", (defArgs s_is_item), (defBody s_is_item), (defScope s_is_item)⟩,
  ⟨fun K => (He.ga K "is_pair"), "is_pair", "is_pair", (defArgs s_is_pair), (defBody s_is_pair), (defScope s_is_pair)⟩,
  ⟨fun K => (He.ga K "level_between"), "level_between", "level_between", (defArgs s_level_between), (defBody s_level_between), (defScope s_level_between)⟩,
  ⟨fun K => (He.ga K "pairs_of"), "pairs_of", "pairs_of", (defArgs s_pairs_of), (defBody s_pairs_of), (defScope s_pairs_of)⟩,
  ⟨fun K => (He.ga K "is_even"), "is_even", "is_even", (defArgs s_is_even), (defBody s_is_even), (defScope s_is_even)⟩,
  ⟨fun K => (He.ga K "uneven_items"), "uneven_items", "uneven_items", (defArgs s_uneven_items), (defBody s_uneven_items), (defScope s_uneven_items)⟩,
  ⟨fun K => (He.ga K "is_nested"), "is_nested", "is_nested", (defArgs s_is_nested), (defBody s_is_nested), (defScope s_is_nested)⟩,
  ⟨fun K => (He.ga K "level_grid"), "level_grid", "level_grid", (defArgs s_level_grid), (defBody s_level_grid), (defScope s_level_grid)⟩,
  ⟨fun K => (He.ga K "lowest_grid"), "lowest_grid", "lowest_grid", (defArgs s_lowest_grid), (defBody s_lowest_grid), (defScope s_lowest_grid)⟩,
  ⟨fun K => (He.ga K "join_grid"), "join_grid", "join_grid", (defArgs s_join_grid), (defBody s_join_grid), (defScope s_join_grid)⟩,
  ⟨fun K => (He.ga K "nested_below"), "nested_below", "nested_below", (defArgs s_nested_below), (defBody s_nested_below), (defScope s_nested_below)⟩,
  ⟨fun K => (He.ga K "own_sets"), "own_sets", "own_sets", (defArgs s_own_sets), (defBody s_own_sets), (defScope s_own_sets)⟩,
  ⟨fun K => (He.ga K "united"), "united", "united", (defArgs s_united), (defBody s_united), (defScope s_united)⟩,
  ⟨fun K => (He.ga K "connects_all"), "connects_all", "connects_all", (defArgs s_connects_all), (defBody s_connects_all), (defScope s_connects_all)⟩,
  ⟨fun K => (He.ga K "is_spanning"), "is_spanning", "is_spanning", (defArgs s_is_spanning), (defBody s_is_spanning), (defScope s_is_spanning)⟩,
  ⟨fun K => (He.ga K "sum_of"), "sum_of", "sum_of", (defArgs s_sum_of), (defBody s_sum_of), (defScope s_sum_of)⟩,
  ⟨fun K => (He.ga K "least_tree"), "least_tree", "least_tree", (defArgs s_least_tree), (defBody s_least_tree), (defScope s_least_tree)⟩,
  ⟨fun K => (He.ga K "is_least_tree"), "is_least_tree", "is_least_tree", (defArgs s_is_least_tree), (defBody s_is_least_tree), (defScope s_is_least_tree)⟩,
  ⟨fun K => (He.ga K "tree_levels"), "tree_levels", "tree_levels", (defArgs s_tree_levels), (defBody s_tree_levels), (defScope s_tree_levels)⟩,
  ⟨fun K => (He.ga K "_law_draws"), "_law_draws", "_law_draws", (defArgs s_L_draws), (defBody s_L_draws), (defScope s_L_draws)⟩,
  ⟨fun K => (He.ga K "_law_next"), "_law_next", "_law_next", (defArgs s_L_next), (defBody s_L_next), (defScope s_L_next)⟩,
  ⟨fun K => (He.ga K "_law_one"), "_law_one", "_law_one", (defArgs s_L_one), (defBody s_L_one), (defScope s_L_one)⟩,
  ⟨fun K => (He.ga K "_law_equal"), "_law_equal", "_law_equal", (defArgs s_L_equal), (defBody s_L_equal), (defScope s_L_equal)⟩,
  ⟨fun K => (He.ga K "_law_count"), "_law_count", "_law_count", (defArgs s_L_count), (defBody s_L_count), (defScope s_L_count)⟩]
def hfn1 : List DefE := [
  ⟨fun K => (He.ga K "_law_grades"), "_law_grades", "_law_grades", (defArgs s_L_grades), (defBody s_L_grades), (defScope s_L_grades)⟩,
  ⟨fun K => (He.ga K "_law_level"), "_law_level", "_law_level", (defArgs s_L_level), (defBody s_L_level), (defScope s_L_level)⟩,
  ⟨fun K => (He.ga K "_law_nested"), "_law_nested", "_law_nested", (defArgs s_L_nested), (defBody s_L_nested), (defScope s_L_nested)⟩,
  ⟨fun K => (He.ga K "_law_raised"), "_law_raised", "_law_raised", (defArgs s_L_raised), (defBody s_L_raised), (defScope s_L_raised)⟩,
  ⟨fun K => (He.ga K "_law_levels"), "_law_levels", "_law_levels", (defArgs s_L_levels), (defBody s_L_levels), (defScope s_L_levels)⟩,
  ⟨fun K => (He.ga K "_law_any"), "_law_any", "_law_any", (defArgs s_L_any), (defBody s_L_any), (defScope s_L_any)⟩,
  ⟨fun K => (He.ga K "_law_table"), "_law_table", "_law_table", (defArgs s_L_table), (defBody s_L_table), (defScope s_L_table)⟩,
  ⟨fun K => (He.ga K "_law_pairs"), "_law_pairs", "_law_pairs", (defArgs s_L_pairs), (defBody s_L_pairs), (defScope s_L_pairs)⟩,
  ⟨fun K => (He.ga K "_law_is_connected"), "_law_is_connected", "_law_is_connected", (defArgs s_L_is_connected), (defBody s_L_is_connected), (defScope s_L_is_connected)⟩,
  ⟨fun K => (He.ga K "_law_sum"), "_law_sum", "_law_sum", (defArgs s_L_sum), (defBody s_L_sum), (defScope s_L_sum)⟩,
  ⟨fun K => (He.ga K "_law_all_trees"), "_law_all_trees", "_law_all_trees", (defArgs s_L_all_trees), (defBody s_L_all_trees), (defScope s_L_all_trees)⟩,
  ⟨fun K => (He.ga K "_law_shuffled"), "_law_shuffled", "_law_shuffled", (defArgs s_L_shuffled), (defBody s_L_shuffled), (defScope s_L_shuffled)⟩,
  ⟨fun K => (He.ga K "_law_some_tree"), "_law_some_tree", "_law_some_tree", (defArgs s_L_some_tree), (defBody s_L_some_tree), (defScope s_L_some_tree)⟩,
  ⟨fun K => (He.ga K "_law_lowest_tree"), "_law_lowest_tree", "_law_lowest_tree", (defArgs s_L_lowest_tree), (defBody s_L_lowest_tree), (defScope s_L_lowest_tree)⟩,
  ⟨fun K => (He.ga K "_law_tree_right"), "_law_tree_right", "_law_tree_right", (defArgs s_L_tree_right), (defBody s_L_tree_right), (defScope s_L_tree_right)⟩,
  ⟨fun K => (He.ga K "_law_exchanged"), "_law_exchanged", "_law_exchanged", (defArgs s_L_exchanged), (defBody s_L_exchanged), (defScope s_L_exchanged)⟩,
  ⟨fun K => (He.ga K "_law_led_right"), "_law_led_right", "_law_led_right", (defArgs s_L_led_right), (defBody s_L_led_right), (defScope s_L_led_right)⟩,
  ⟨fun K => (He.ga K "law"), "law", "law", (defArgs s_law), (defBody s_law), (defScope s_law)⟩]
def hfn : List DefE := hfn0 ++ hfn1
def hlo0 : List Str := ["LEVEL", "__name__", "MergeError", "NotSpanning", "is_whole", "is_item", "is_pair", "level_between", "pairs_of", "is_even", "uneven_items", "is_nested", "level_grid", "lowest_grid", "join_grid", "nested_below", "own_sets", "united", "connects_all", "is_spanning", "sum_of", "least_tree", "is_least_tree", "tree_levels", "_law_draws"]
def hlo1 : List Str := ["_law_next", "_law_one", "_law_equal", "_law_count", "_law_grades", "_law_level", "_law_nested", "_law_raised", "_law_levels", "_law_any", "_law_table", "_law_pairs", "_law_is_connected", "_law_sum", "_law_all_trees", "_law_shuffled", "_law_some_tree", "_law_lowest_tree", "_law_tree_right", "_law_exchanged", "_law_led_right"]
def hlo : List Str := hlo0 ++ hlo1
abbrev hR : PySem.W.OpenRow := PySem.W.OpenLaw.row PySem.Challenge.rw_mergelevels_k33_whole_least_sums_and_joi
def hhx (K : PySem.W.Frag) : List Int := []
def hhv (w : World) : List Int := []
abbrev hk : PySem.W.Hook := hook3 5 hfs hfn hhx hhv
def hq : Program := PySem.W.view hR.prog [50]
set_option maxHeartbeats 0 in
theorem hrA (w : World) (os : OsState) : (HandSHeadRun.endF (HandSHeadRun.stepQ (HandSHeadRun.denQ HandSHeadRun.tabQ) hR.prog w) 20000 hR.prog w os).map (fun s => HandSHeadRun.looksF hR.prog (PySem.W.boot_heap w.params) s.abs) = some true := by kernel_rfl
set_option maxHeartbeats 0 in
theorem hrB (w : World) (os : OsState) : (HandSHeadRun.endF (HandSHeadRun.stepQ (HandSHeadRun.denQ HandSHeadRun.tabQ) hR.prog w) 20000 hR.prog w os).map (fun s => HandSHeadRun.seenQ (PySem.W.view hR.prog [50]) hlo (PySem.importedModules hR.prog.main.body) (fun s => PySem.W.xlAt (PySem.W.view hR.prog [50]) [] s && PySem.W.recOk hR.toRowW.records s) s.abs) = some (PySem.W.openGood (PySem.W.view hR.prog [50]) hlo) := by kernel_rfl
set_option maxHeartbeats 0 in
theorem hrF0 (w : World) (os : OsState) : (HandSHeadRun.endF (HandSHeadRun.stepQ (HandSHeadRun.denQ HandSHeadRun.tabQ) hR.prog w) 20000 hR.prog w os).map (fun s => hfp0.all fun f => f (kOf 5 s)) = some true := by kernel_rfl
set_option maxHeartbeats 0 in
theorem hrD (w : World) (os : OsState) : (HandSHeadRun.endF (HandSHeadRun.stepQ (HandSHeadRun.denQ HandSHeadRun.tabQ) hR.prog w) 20000 hR.prog w os).map (fun s => ((hfn.all fun d => d.ok (kOf 5 s), hfn.map fun d => d.obs (kOf 5 s)), hhx (kOf 5 s))) = some ((true, hfn.map DefE.val), hhv w) := by kernel_rfl
theorem hrun (w : World) : HandSHeadRun.RunEq hR (PySem.W.view hR.prog [50]) hk (ob3 5 hfs hfn hhx) 20000 hlo w := run_of3 (hrA w) (hrB w) (fun l hl => by
  simp only [hfs, List.mem_cons, List.not_mem_nil, or_false] at hl
  rcases hl with rfl
  exact hrF0 w) (hrD w)
/-! ### the names of the module -/
structure Bi (mg : Str → Option Value) : Prop where
  len : mg "len" = none
  list : mg "list" = none
  int : mg "int" = none
  range : mg "range" = none
  sorted : mg "sorted" = none
  set : mg "set" = none
  tuple : mg "tuple" = none
  min : mg "min" = none
  max : mg "max" = none
  isinstance : mg "isinstance" = none
  bool : mg "bool" = none
  str : mg "str" = none
  all : mg "all" = none
  zip : mg "zip" = none
  repr : mg "repr" = none
  enumerate : mg "enumerate" = none
  abs : mg "abs" = none
  sum : mg "sum" = none
  dict : mg "dict" = none
structure Df (K : PySem.W.Frag) (mg : Str → Option Value) (x : Str) (st : Stmt) (f : Addr) (fd : FuncData) (ps : List Str) : Prop where
  F : Fun K x x st f fd
  b : Binds K fd ps []
  g : mg x = some (.ref f)
section
variable {X : Cx} {k : Nat} {f : Addr} {fd : FuncData} {ps : List Str} {sp : Sp} {x : Str} {p pos : Pos} {e : Expr} {es : List Expr} {t : TA} {st : Stmt}
theorem pe_cl (D : Df X.K X.mg x st f fd ps) (G : FnOk X.prog X.w X.K X.mg X.base CX0 k f fd ps sp) (hr : Room k X.A) (ha : PA X (e :: es) t) (hg : Gl X x := by rfl) (hdb : (x == ("__debug__" : Str)) = false := by decide)
    (he : starEach (e :: es) X.env = (false, eval e X.env) :: starEach es X.env := by rfl) (hpl : (backTo pos (starEach es X.env)).any (·.1) = false := by rfl) : PE X (.Call (.Name x p) (e :: es) [] pos) (tCall sp [] E0 t) :=
  pe_call G hr hg D.g D.F.kp D.b .nil pass0 ha hdb he hpl
theorem pe_len {a : Expr} {ta : TE} (B : Bi X.mg) (ha : PE X a ta) (hg : Gl X "len" := by rfl) (he : starEach [a] X.env = (false, eval a X.env) :: starEach [] X.env := by rfl) :
    PE X (.Call (.Name "len" p) [a] [] pos) (tCB (fun xs H Q => ∃ p ys, xs = [.ref p] ∧ (SqL X.K H p ys ∨ SqT X.K H p ys) ∧ Q (.int ys.length) H) (tCons ta tNil)) :=
  pe_callB call_len_seq hg B.len PySem.boot_len (pa_cons ha pa_nil he) (by decide) (by decide) he
end
section
variable {P : Program} {w : World} {K : PySem.W.Frag} {mg : Str → Option Value} {base : Heap}
/-! ### drawing -/
def sp_next : Sp := fun vs H Q _ => ∃ (d c r : Addr) (n : Nat) (m : Int), vs = [.ref d, .int m] ∧ Dr H d c r n ∧ n ≤ 900000 ∧ 0 < m ∧ m ≤ 1000000000000000000000000000000 ∧
  ∀ (H' : Hp) (k : Nat), (k : Int) < m → Dr H' d c r (n + 1) → Kp d r H H' → Q (.int (k : Int)) H'
theorem ok_next {f : Addr} {fd : FuncData} {k : Nat} (F : Fun K "_law_next" "_law_next" s_L_next f fd) (B : Bi mg) : FnOk P w K mg base CX0 (k + 1) f fd ["_law_drawn", "_law_many"] sp_next := by
  refine F.ok sc_L_next (fun vs H Q E h => ?_) (fun cdv A outer s H vs Q E hr h => ?_)
  · obtain ⟨d, c, r, n, m, rfl, _⟩ := h
    rfl
  · obtain ⟨d, c, r, n, m, rfl, hD, hn, hm0, hm1, q⟩ := h
    have nd := sc_L_next.nd
    refine ⟨_, pss_cons (ps_asg (pv 0) (pg_unl rfl (pgs_cons (pg_name (i := 2) nd rfl (.inl rfl)) (pgs_cons (pg_name (i := 3) nd rfl (.inl rfl)) (pgs_cons (pg_name (i := 4) nd rfl (.inl rfl)) pgs_nil)))))
      (pss_cons (ps_set (i := 5) nd rfl (.inl rfl) (pe_op op_mod (pv 3) (pe_len B (pv 2))))
      (pss_cons (ps_asg (pe_op op_add (pv 3) pe_int) (pg_sub (pv 0) pe_int set_list))
      (pss_cons (ps_if (pt_cmpR op_gt (pe_ix ix_list (pv 4) (pv 5) (fun _ _ => rfl)) pe_int (nomark _))
        (pss_cons (ps_set (i := 6) nd rfl (.inl rfl) (pe_op op_mod (pe_ix ix_list (pv 4) (pv 5) (fun _ _ => rfl)) (pv 1)))
        (pss_cons (ps_asg (pe_op op_fdivW (pe_ix ix_list (pv 4) (pv 5) (fun _ _ => rfl)) (pv 1)) (pg_sub (pv 4) (pv 5) set_list))
        (pss_one (ps_ret (pv 6))))) pss_nil)
      (pss_cons (ps_set (i := 7) nd rfl (.inl rfl) (pe_op op_mod (pe_op op_pow (pe_op op_add (pe_op op_add (pe_op op_mod (pe_ix ix_list (pv 2) (pv 5) (fun _ _ => rfl)) pe_int) (pe_op op_mul pe_int (pv 3))) pe_int) pe_int) pe_int))
      (pss_cons (ps_set (i := 8) nd rfl (.inl rfl) (pe_op op_mod (pe_op op_pow (pe_op op_add (pe_op op_add (pv 7) (pe_op op_mul (pe_op op_mul pe_int (pv 3)) (pv 3))) pe_int) pe_int) pe_int))
      (pss_one (ps_ret (pe_op op_mod (pe_op op_mod (pe_op op_add (pe_op op_mul (pv 8) pe_int) (pv 7)) pe_int) (pv 1))))))))), ?_⟩
    obtain ⟨⟨cells, rests, t, hd, hc, hr', hlen, h0, h64, ht, hpos⟩, dc, dr, cr⟩ := hD
    -- the three names
    refine ⟨.ref d, rfl, d, _, rfl, SqL.of hd, rfl, _, _, rfl, _, _, rfl, _, _, rfl, rfl, ?_⟩
    -- the place
    refine ⟨.int (t : Int), rfl, .ref c, rfl, c, _, rfl, .inl (SqL.of hc), _, _, rfl, rfl, by rw [List.length_map]; omega, ?_⟩
    obtain ⟨sp, hsp⟩ : ∃ sp : Nat, sp = t % cells.length := ⟨_, rfl⟩
    have esp : (t : Int) % ((cells.map V.int).length : Int) = (sp : Int) := by rw [List.length_map, hsp]; exact (Int.natCast_emod t cells.length).symm
    have lsp : sp < cells.length := by rw [hsp]; exact Nat.mod_lt _ h0
    have lsr : sp < rests.length := by omega
    dsimp only
    rw [esp]
    -- one more
    refine ⟨.int (t : Int), rfl, _, _, rfl, rfl, .ref d, rfl, d, _, 1, 1, rfl, rfl, hd, rfl, ?_⟩
    generalize hH1 : upd H d (.lst (List.set [.ref c, .int (t : Int), .ref r] 1 (.int ((t : Int) + 1)))) = H1
    have hd1 : H1 d = some (.lst [.ref c, .int ((t + 1 : Nat) : Int), .ref r]) := by rw [← hH1, upd_same]; rfl
    have hc1 : H1 c = some (.lst (cells.map V.int)) := by rw [← hH1, upd_ne dc.symm]; exact hc
    have hr1 : H1 r = some (.lst (rests.map V.int)) := by rw [← hH1, upd_ne dr.symm]; exact hr'
    have k1 : Kp d r H H1 := fun b o e n1 n2 => by rw [← hH1, upd_ne n1]; exact e
    have er := getD_at lsr
    have rAt : atI (rests.map V.int) (sp : Int) = some (.int (rests.getD sp 0)) := atI_nat (map_at er)
    have ec := getD_at lsp
    have cAt : atI (cells.map V.int) (sp : Int) = some (.int (cells.getD sp 0)) := atI_nat (map_at ec)
    refine ⟨.ref r, rfl, .int (sp : Int), rfl, r, _, _, _, rfl, rfl, SqL.of hr1, rAt, _, _, rfl, rfl, _, rfl, ite2 (fun hg => ?_) (fun hg => ?_)⟩
    · have hg : (0 : Int) < rests.getD sp 0 := of_decide_eq_true hg
      refine ⟨.ref r, rfl, .int (sp : Int), rfl, r, _, _, _, rfl, rfl, SqL.of hr1, rAt, .int m, rfl, _, _, rfl, rfl, hm0, ?_⟩
      refine ⟨.ref r, rfl, .int (sp : Int), rfl, r, _, _, _, rfl, rfl, SqL.of hr1, rAt, .int m, rfl, _, _, rfl, rfl, wide_div (b := 128) hm0 (by omega) (by decide) (by decide), ?_⟩
      refine ⟨.ref r, rfl, .int (sp : Int), rfl, r, _, _, sp, rfl, rfl, hr1, ixN_at (by rw [List.length_map]; exact lsr), ?_⟩
      refine ⟨_, rfl, ?_⟩
      have hz := Int.emod_nonneg (rests.getD sp 0) (by omega : m ≠ 0)
      have hl := Int.emod_lt_of_pos (rests.getD sp 0) hm0
      dsimp only
      rw [show rests.getD sp 0 % m = ((rests.getD sp 0 % m).toNat : Int) from (Int.toNat_of_nonneg hz).symm]
      refine q _ _ (by omega) ⟨⟨cells, rests.set sp (rests.getD sp 0 / m), t + 1, ?_, ?_, ?_, ?_, h0, h64, by omega, ?_⟩, dc, dr, cr⟩ ?_
      · rw [upd_ne dr]; exact hd1
      · rw [upd_ne cr]; exact hc1
      · rw [upd_same, List.map_set]
      · rw [List.length_set]; exact hlen
      · intro x hx
        rcases List.mem_or_eq_of_mem_set hx with hx | hx
        · exact hpos x hx
        · rw [hx]; exact Int.ediv_nonneg (Int.le_of_lt hg) (Int.le_of_lt hm0)
      · intro b o e n1 n2
        rw [upd_ne n2]
        exact k1 b o e n1 n2
    · have ht6 : t ≤ 900000 := Nat.le_trans ht hn
      have htt : t * t ≤ 900000 * 900000 := Nat.mul_le_mul ht6 ht6
      have httI : (t : Int) * (t : Int) ≤ 900000 * 900000 := Int.mul_le_mul (by omega) (by omega) (by omega) (by omega)
      have htt0 : (0 : Int) ≤ (t : Int) * (t : Int) := Int.mul_nonneg (by omega) (by omega)
      have c0 := Int.emod_nonneg (cells.getD sp 0) (show (2147483629 : Int) ≠ 0 by decide)
      have c1 := Int.emod_lt_of_pos (cells.getD sp 0) (show (0 : Int) < 2147483629 by decide)
      refine ⟨.ref c, rfl, .int (sp : Int), rfl, c, _, _, _, rfl, rfl, SqL.of hc1, cAt, _, _, rfl, rfl, (by show (0 : Int) < 2147483629; decide), .int (t : Int), rfl, _, _, rfl, rfl, .inl ⟨by decide, by decide⟩, _, _, rfl, rfl, _, _, rfl, rfl, _, _, rfl, rfl, ⟨by decide, by decide, by omega⟩, _, _, rfl, rfl, (by show (0 : Int) < 2147483587; decide), ?_⟩
      generalize hX : (cells.getD sp 0 % 2147483629 + 48611 * (t : Int) + 12007) ^ ((3 : Int).toNat) = X3
      have m0 := Int.emod_nonneg X3 (show (2147483587 : Int) ≠ 0 by decide)
      have m1 := Int.emod_lt_of_pos X3 (show (0 : Int) < 2147483587 by decide)
      have e3 : 6007 * (t : Int) * (t : Int) = 6007 * ((t : Int) * (t : Int)) := Int.mul_assoc _ _ _
      refine ⟨.int (X3 % 2147483587), rfl, .int (t : Int), rfl, _, _, rfl, rfl, .inl ⟨by decide, by decide⟩, .int (t : Int), rfl, _, _, rfl, rfl, .inr ⟨by omega, by omega⟩, _, _, rfl, rfl, _, _, rfl, rfl, _, _, rfl, rfl, ⟨by decide, by decide, by omega⟩, _, _, rfl, rfl, (by show (0 : Int) < 2147483563; decide), ?_⟩
      generalize hY : (X3 % 2147483587 + 6007 * (t : Int) * (t : Int) + 53) ^ ((3 : Int).toNat) = Y3
      refine ⟨.int (Y3 % 2147483563), rfl, _, _, rfl, rfl, .inr ⟨by decide, by decide⟩, .int (X3 % 2147483587), rfl, _, _, rfl, rfl, _, _, rfl, rfl, (by show (0 : Int) < 4611686018427387847; decide), .int m, rfl, _, _, rfl, rfl, hm0, ?_⟩
      generalize hZ : (Y3 % 2147483563 * 2147483423 + X3 % 2147483587) % 4611686018427387847 = Z
      have hz := Int.emod_nonneg Z (by omega : m ≠ 0)
      have hl := Int.emod_lt_of_pos Z hm0
      dsimp only
      rw [show Z % m = ((Z % m).toNat : Int) from (Int.toNat_of_nonneg hz).symm]
      exact q _ _ (by omega) ⟨⟨cells, rests, t + 1, hd1, hc1, hr1, hlen, h0, h64, by omega, hpos⟩, dc, dr, cr⟩ k1
end
section
variable {P : Program} {w : World} {K : PySem.W.Frag} {mg : Str → Option Value} {base : Heap}
def sp_one (K : PySem.W.Frag) : Sp := fun vs H Q _ => ∃ (d c r : Addr) (n : Nat) (l : Addr) (xs : List V), vs = [.ref d, .ref l] ∧ Dr H d c r n ∧ n ≤ 900000 ∧ SqL K H l xs ∧ l ≠ d ∧ l ≠ r ∧ 0 < xs.length ∧ xs.length ≤ 1000 ∧
  ∀ (H' : Hp) (i : Nat) (v : V), xs[i]? = some v → Dr H' d c r (n + 1) → Kp d r H H' → Q v H'
theorem ok_one {f fN : Addr} {fd fdN : FuncData} (F : Fun K "_law_one" "_law_one" s_L_one f fd) (DN : Df K mg "_law_next" s_L_next fN fdN ["_law_drawn", "_law_many"]) (B : Bi mg) : FnOk P w K mg base CX0 2 f fd ["_law_drawn", "_law_items"] (sp_one K) := by
  have GN : FnOk P w K mg base CX0 1 fN fdN ["_law_drawn", "_law_many"] sp_next := ok_next DN.F B
  refine F.ok sc_L_one (fun vs H Q E h => ?_) (fun cdv A outer s H vs Q E hr h => ?_)
  · obtain ⟨d, c, r, n, l, xs, rfl, _⟩ := h
    rfl
  · obtain ⟨d, c, r, n, l, xs, rfl, hD, hn, hl, ld, lr, h0, h1, q⟩ := h
    refine ⟨_, pss_one (ps_ret (pe_ix ix_list (pv 1) (pe_cl DN GN hr (pa_cons (pv 0) (pa_cons (pe_len B (pv 1)) pa_nil))) (fun _ _ => rfl))), ?_⟩
    refine ⟨.ref l, rfl, .ref d, rfl, .ref l, rfl, l, xs, rfl, .inl hl, d, c, r, n, _, rfl, hD, hn, by omega, by omega, fun H' k hk hD' kp => ?_⟩
    have hk' : k < xs.length := by omega
    exact ⟨l, xs, k, xs[k], rfl, rfl, kp.sqL ld lr hl, atI_nat (List.getElem?_eq_getElem hk'), q H' k _ (List.getElem?_eq_getElem hk') hD' kp⟩
/-! ### a count -/
def sp_count : Sp := fun vs H Q _ => ∃ (d c r : Addr) (n : Nat) (m : Int), vs = [.ref d, .int m] ∧ Dr H d c r n ∧ n ≤ 800000 ∧ 1 ≤ m ∧ m ≤ 1000 ∧
  ∀ (H' : Hp) (k : Nat), 1 ≤ k → (k : Int) ≤ m → Dr H' d c r (n + 3) → Kp d r H H' → Q (.int (k : Int)) H'
theorem ok_count {f fN : Addr} {fd fdN : FuncData} (F : Fun K "_law_count" "_law_count" s_L_count f fd) (DN : Df K mg "_law_next" s_L_next fN fdN ["_law_drawn", "_law_many"]) (B : Bi mg) : FnOk P w K mg base CX0 2 f fd ["_law_drawn", "_law_most"] sp_count := by
  have GN : FnOk P w K mg base CX0 1 fN fdN ["_law_drawn", "_law_many"] sp_next := ok_next DN.F B
  refine F.ok sc_L_count (fun vs H Q E h => ?_) (fun cdv A outer s H vs Q E hr h => ?_)
  · obtain ⟨d, c, r, n, m, rfl, _⟩ := h
    rfl
  · obtain ⟨d, c, r, n, m, rfl, hD, hn, h1, h2, q⟩ := h
    refine ⟨_, pss_one (ps_ret (pe_ix ix_list (pe_lst (pa_cons (pv 1) (pa_cons (pe_op op_add pe_int (pe_cl DN GN hr (pa_cons (pv 0) (pa_cons (pv 1) pa_nil))))
      (pa_cons (pe_op op_add pe_int (pe_cl DN GN hr (pa_cons (pv 0) (pa_cons (pe_callB (call_min2 rfl) (by rfl) B.min (by decide +kernel) (pa_cons (pv 1) (pa_cons pe_int pa_nil))) pa_nil)))) pa_nil))))
      (pe_cl DN GN hr (pa_cons (pv 0) (pa_cons pe_int pa_nil))) (fun _ _ => rfl))), ?_⟩
    refine ⟨.int m, rfl, .ref d, rfl, .int m, rfl, d, c, r, n, m, rfl, hD, by omega, by omega, by omega, fun H1 k1 l1 D1 kp1 => ?_⟩
    refine ⟨_, _, rfl, rfl, .ref d, rfl, .int m, rfl, _, _, rfl, d, c, r, n + 1, _, rfl, D1, by omega, ?_, ?_, fun H2 k2 l2 D2 kp2 => ?_⟩
    · split <;> omega
    · split <;> omega
    refine ⟨_, _, rfl, rfl, (by show 3 ≤ sizeLine; decide), fun p hp => ?_⟩
    have kp12 := kp1.trans kp2
    refine ⟨.ref d, rfl, d, c, r, n + 2, 3, rfl, D2.new hp, by omega, by decide, by decide, fun H3 k3 l3 D3 kp3 => ?_⟩
    have np := D2.ne hp
    have hp3 : H3 p = _ := kp3 p _ upd_same np.1 np.2.2
    have kp : Kp d r H H3 := kp12.trans ((Kp.new hp).trans kp3)
    have lm : (if (4 : Int) < m then (4 : Int) else m) ≤ m := by split <;> omega
    match k3, l3 with
    | 0, _ => exact ⟨p, _, 0, .int m, rfl, rfl, SqL.of hp3, rfl, by rw [show m = (m.toNat : Int) from (Int.toNat_of_nonneg (by omega)).symm]; exact q H3 m.toNat (by omega) (by omega) D3 kp⟩
    | 1, _ => exact ⟨p, _, 1, .int (1 + (k1 : Int)), rfl, rfl, SqL.of hp3, rfl, by rw [show 1 + (k1 : Int) = ((1 + k1 : Nat) : Int) by omega]; exact q H3 (1 + k1) (by omega) (by omega) D3 kp⟩
    | 2, _ => exact ⟨p, _, 2, .int (1 + (k2 : Int)), rfl, rfl, SqL.of hp3, rfl, by rw [show 1 + (k2 : Int) = ((1 + k2 : Nat) : Int) by omega]; exact q H3 (1 + k2) (by omega) (by omega) D3 kp⟩
    | k + 3, l3 => omega
end
section
variable {P : Program} {w : World} {K : PySem.W.Frag} {mg : Str → Option Value} {base : Heap}
/-! ### levels to choose from -/
def GrOk (ns : List Int) : Prop := 0 < ns.length ∧ ns.length ≤ 8 ∧ ∀ x ∈ ns, LvOk x
def sp_grades : Sp := fun vs H Q _ => ∃ (d c r : Addr) (n : Nat), vs = [.ref d] ∧ Dr H d c r n ∧ n ≤ 800000 ∧
  ∀ (H' : Hp) (g : Addr) (ns : List Int), H g = none → H' g = some (.lst (ns.map V.int)) → GrOk ns → Dr H' d c r (n + 9) → Kp d r H H' → g ≠ d → g ≠ c → g ≠ r → Q (.ref g) H'
theorem ok_grades {f fN : Addr} {fd fdN : FuncData} (F : Fun K "_law_grades" "_law_grades" s_L_grades f fd) (DN : Df K mg "_law_next" s_L_next fN fdN ["_law_drawn", "_law_many"]) (B : Bi mg) : FnOk P w K mg base CX0 2 f fd ["_law_drawn"] sp_grades := by
  have GN : FnOk P w K mg base CX0 1 fN fdN ["_law_drawn", "_law_many"] sp_next := ok_next DN.F B
  refine F.ok sc_L_grades (fun vs H Q E h => ?_) (fun cdv A outer s H vs Q E hr h => ?_)
  · obtain ⟨d, c, r, n, rfl, _⟩ := h
    rfl
  · obtain ⟨d, c, r, n, rfl, hD, hn, q⟩ := h
    have nd := sc_L_grades.nd
    refine ⟨_, pss_cons (ps_par (i := 1) (j := 2) rfl nd rfl rfl (by decide) rfl rfl (pa_cons (pe_cl DN GN hr (pa_cons (pv 0) (pa_cons pe_int pa_nil))) (pa_cons (pe_op op_add pe_int (pe_cl DN GN hr (pa_cons (pv 0) (pa_cons pe_int pa_nil)))) pa_nil)) rfl)
      (pss_cons (ps_set (i := 3) nd rfl (.inr rfl) (pe_ix ix_list (pe_lst (pa_cons pe_int (pa_cons pe_int (pa_cons pe_int (pa_cons pe_int (pa_cons (pe_op op_pow pe_int pe_int) pa_nil)))))) (pv 1) (fun _ _ => rfl)))
      (pss_cons (ps_setLc (i := 4) (own := [("_law_k", 5)]) (g := gName 5) (tt := tYes) rfl nd rfl rfl (sw_true rfl rfl rfl (by decide +kernel)) (pi_range1 rfl B.range (pa_cons (pv 2) pa_nil)) (blkOk_by (N := N_L_grades) (sc := defScope s_L_grades) (by decide +kernel))
        (fun _ _ _ _ _ => pg_name (i := 5) nd rfl (.inl rfl)) (fun _ _ _ _ _ => pts_nil)
        (fun _ _ _ _ _ => pe_op op_add pe_int (pe_cl DN GN hr (pa_cons (pv 0) (pa_cons (pv 3) pa_nil)))))
      (pss_one (ps_ret (pe_callB (cr_sortedSet rfl) (by rfl) B.sorted (by decide +kernel) (pa_cons (pe_callTy (cr_setL1 rfl) (by rfl) B.set (by decide +kernel)
        (pa_cons (pe_op op_cat (pv 4) (pe_op op_rep (pe_lst (pa_cons (pe_op op_pow pe_int pe_int) pa_nil)) (pe_callTy call_int1 (by rfl) B.int (by decide +kernel) (pa_cons (pe_cmpR op_eq (pe_cl DN GN hr (pa_cons (pv 0) (pa_cons pe_int pa_nil))) pe_int (nomark _)) pa_nil)))) pa_nil)) pa_nil)))))), ?_⟩
    refine ⟨.ref d, rfl, d, c, r, n, 5, rfl, hD, by omega, by decide, by decide, fun H1 k1 l1 D1 kp1 => ?_⟩
    refine ⟨.ref d, rfl, d, c, r, n + 1, 6, rfl, D1, by omega, by decide, by decide, fun H2 k2 l2 D2 kp2 => ?_⟩
    refine ⟨_, _, rfl, rfl, _, _, rfl, ?_⟩
    have kp12 := kp1.trans kp2
    -- wide
    refine ⟨_, _, rfl, rfl, ⟨by decide, by decide, by decide⟩, (by show 5 ≤ sizeLine; decide), fun p hp => ?_⟩
    have D3 : Dr (upd H2 p (.lst [.int 2, .int 4, .int 12, .int 100, .int (10 ^ (12 : Int).toNat)])) d c r (n + 2) := D2.new hp
    obtain ⟨wd, hwd, w0, w1⟩ : ∃ wd : Int, atI [V.int 2, .int 4, .int 12, .int 100, .int (10 ^ (12 : Int).toNat)] (k1 : Int) = some (.int wd) ∧ 0 < wd ∧ wd ≤ 1000000000000 := by
      match k1, l1 with
      | 0, _ => exact ⟨2, rfl, by decide, by decide⟩
      | 1, _ => exact ⟨4, rfl, by decide, by decide⟩
      | 2, _ => exact ⟨12, rfl, by decide, by decide⟩
      | 3, _ => exact ⟨100, rfl, by decide, by decide⟩
      | 4, _ => exact ⟨10 ^ (12 : Int).toNat, rfl, by decide, by decide⟩
      | k + 5, l => omega
    refine ⟨.int (k1 : Int), rfl, p, _, _, _, rfl, rfl, SqL.of upd_same, hwd, ?_⟩
    have kp3 : Kp d r H (upd H2 p (.lst [.int 2, .int 4, .int 12, .int 100, .int (10 ^ (12 : Int).toNat)])) := kp12.trans (Kp.new hp)
    generalize upd H2 p (.lst [.int 2, .int 4, .int 12, .int 100, .int (10 ^ (12 : Int).toNat)]) = H3 at D3 kp3
    -- the found ones
    refine ⟨.int (1 + (k2 : Int)), rfl, _, rfl, by omega, by omega, fun D hDn => lc_range (n := (1 + (k2 : Int)).toNat) (fun i Hx => ∃ ns : List Int, Hx D = some (.lst (ns.map V.int)) ∧ ns.length = i ∧ (∀ x ∈ ns, LvOk x) ∧ Dr Hx d c r (n + 2 + i) ∧ Kp d r H3 Hx) ⟨[], upd_same, rfl, fun x hx => by simp at hx, D3.new hDn, Kp.new hDn⟩ (fun i Hx hi hP => ?_) (fun Hx hP => ?_)⟩
    · obtain ⟨ns, h1, h2, h3, h4, h5⟩ := hP
      refine ⟨rfl, .ref d, rfl, .int wd, rfl, d, c, r, n + 2 + i, wd, rfl, h4, by omega, w0, by omega, fun H4 k4 l4 D4 kp4 => ?_⟩
      have nD := D3.ne hDn
      have hD4 : H4 D = some (.lst (ns.map V.int)) := kp4 D _ h1 nD.1 nD.2.2
      refine ⟨_, _, rfl, rfl, ns.map V.int, hD4, by rw [List.length_map]; exact small1000 (by omega), ns ++ [1 + (k4 : Int)], ?_, by rw [List.length_append, h2]; rfl, ?_, D4.upd nD.1 nD.2.1 nD.2.2, ?_⟩
      · rw [upd_same, List.map_append]; rfl
      · intro x hx
        rcases List.mem_append.mp hx with hx | hx
        · exact h3 x hx
        · rw [List.mem_singleton.mp hx]; exact ⟨by omega, by omega⟩
      · intro b o e n1 n2
        by_cases hb : b = D
        · rw [hb, hDn] at e; cases e
        · rw [upd_ne hb]; exact kp4 b o (h5 b o e n1 n2) n1 n2
    · obtain ⟨ns, h1, h2, h3, h4, h5⟩ := hP
      have nD := D3.ne hDn
      have e2 : (1 + (k2 : Int)).toNat = 1 + k2 := by omega
      rw [e2] at h2 h4
      -- sorted(set(found + [10 ** 12] * int(next == 0)))
      refine ⟨.ref D, rfl, _, _, rfl, rfl, ⟨by decide, by decide, by decide⟩, (by show 1 ≤ sizeLine; decide), fun p5 hp5 => ?_⟩
      refine ⟨.ref d, rfl, d, c, r, n + 2 + (1 + k2), 8, rfl, h4.new hp5, by omega, by decide, by decide, fun H6 k6 l6 D6 kp6 => ?_⟩
      have np5 := h4.ne hp5
      have hp6 : H6 p5 = some (.lst [.int (10 ^ (12 : Int).toNat)]) := kp6 p5 _ upd_same np5.1 np5.2.2
      have hD6 : H6 D = some (.lst (ns.map V.int)) := kp6 D _ (by rw [upd_ne (ne_of_none h1 hp5)]; exact h1) nD.1 nD.2.2
      obtain ⟨kk, ek, ekk⟩ : ∃ kk : Int, (if decide (V.int (k6 : Int) = V.int 0) = true then (1 : Int) else 0) = kk ∧ (kk = 0 ∨ kk = 1) := ⟨_, rfl, by split <;> simp⟩
      refine ⟨rfl, .inr ⟨_, rfl, ?_⟩⟩
      rw [ek]
      refine ⟨p5, kk, _, rfl, rfl, hp6, by omega, by omega, ?_, fun p7 hp7 => ?_⟩
      · show 1 * kk.toNat ≤ sizeLine
        rcases ekk with e | e <;> rw [e] <;> decide
      obtain ⟨ms, em, lm, hm⟩ : ∃ ms : List Int, (List.replicate kk.toNat [V.int (10 ^ (12 : Int).toNat)]).flatten = ms.map V.int ∧ ms.length ≤ 1 ∧ ∀ x ∈ ms, LvOk x := by
        rcases ekk with e | e
        · exact ⟨[], by rw [e]; rfl, by decide, fun x hx => by simp at hx⟩
        · exact ⟨[10 ^ (12 : Int).toNat], by rw [e]; rfl, by decide, fun x hx => by rw [List.mem_singleton.mp hx]; exact ⟨by decide, by decide⟩⟩
      rw [em]
      have hD7 : (upd H6 p7 (.lst (ms.map V.int))) D = some (.lst (ns.map V.int)) := by rw [upd_ne (ne_of_none hD6 hp7)]; exact hD6
      refine ⟨D, p7, _, _, rfl, rfl, hD7, upd_same, ?_, fun p8 hp8 => ?_⟩
      · rw [List.length_map, List.length_map]; exact Nat.le_of_lt (small1000 (by omega))
      rw [← List.map_append]
      refine ⟨p8, ns ++ ms, rfl, SqL.of upd_same, by rw [List.length_append]; omega, fun p9 cn hp9 hcn => ?_⟩
      refine ⟨p9, _, cn, rfl, upd_same, by rw [List.length_append] at hcn; omega, fun out g hsort hmem hlen hg => ?_⟩
      have D7 := D6.new (o := .lst (ms.map V.int)) hp7
      have D8 := D7.new (o := .lst ((ns ++ ms).map V.int)) hp8
      have D9 := D8.new (o := SetO w p9 (fun j => decide (j ∈ ns ++ ms)) cn) hp9
      have D10 := D9.new (o := .lst (out.map V.int)) hg
      have ng := D9.ne hg
      have kpE : Kp d r H _ := kp3.trans (h5.trans ((Kp.new (o := .lst [.int (10 ^ (12 : Int).toNat)]) hp5).trans (kp6.trans ((Kp.new (o := .lst (ms.map V.int)) hp7).trans ((Kp.new (o := .lst ((ns ++ ms).map V.int)) hp8).trans ((Kp.new (o := SetO w p9 (fun j => decide (j ∈ ns ++ ms)) cn) hp9).trans (Kp.new (o := .lst (out.map V.int)) hg)))))))
      have hgH : H g = none := by
        cases e : H g with
        | none => rfl
        | some o =>
          have z := (kp3.trans (h5.trans ((Kp.new (o := .lst [.int (10 ^ (12 : Int).toNat)]) hp5).trans (kp6.trans ((Kp.new (o := .lst (ms.map V.int)) hp7).trans ((Kp.new (o := .lst ((ns ++ ms).map V.int)) hp8).trans (Kp.new (o := SetO w p9 (fun j => decide (j ∈ ns ++ ms)) cn) hp9))))))) g o e ng.1 ng.2.2
          have hg' : upd (upd (upd H6 p7 (.lst (ms.map V.int))) p8 (.lst ((ns ++ ms).map V.int))) p9 (SetO w p9 (fun j => decide (j ∈ ns ++ ms)) cn) g = none := hg
          rw [hg'] at z
          cases z
      have mem : ∀ x, x ∈ out ↔ x ∈ ns ++ ms := fun x => by rw [hmem x]; exact decide_eq_true_iff
      refine q _ g out hgH upd_same ⟨?_, ?_, fun x hx => ?_⟩ (D10.mono (by omega)) kpE ng.1 ng.2.1 ng.2.2
      · have h0 : 0 < ns.length := by omega
        have : ns[0] ∈ out := (mem _).mpr (List.mem_append_left _ (List.getElem_mem h0))
        exact List.length_pos_of_mem this
      · rw [List.length_append] at hcn
        omega
      · rcases List.mem_append.mp ((mem x).mp hx) with hx | hx
        · exact h3 x hx
        · exact hm x hx
end
section
variable {P : Program} {w : World} {K : PySem.W.Frag} {mg : Str → Option Value} {base : Heap}
/-! ### the level between two -/
theorem min_nat (i j : Nat) : (if (j : Int) < (i : Int) then (j : Int) else (i : Int)) = ((min i j : Nat) : Int) := by
  split <;> omega
theorem max_nat (i j : Nat) : (if (j : Int) > (i : Int) then (j : Int) else (i : Int)) = ((max i j : Nat) : Int) := by
  split <;> omega
def sp_level (K : PySem.W.Frag) : Sp := fun vs H Q _ => ∃ (a : Addr) (xs : List V) (t : List (List Int)) (i j : Nat), vs = [.ref a, .int (i : Int), .int (j : Int)] ∧ (SqL K H a xs ∨ SqT K H a xs) ∧ Rows K H xs t ∧ WT t ∧ i < t.length ∧ j < t.length ∧ Q (.int (lev t i j)) H
theorem ok_level {f : Addr} {fd : FuncData} {k : Nat} (F : Fun K "_law_level" "_law_level" s_L_level f fd) (B : Bi mg) : FnOk P w K mg base CX0 (k + 1) f fd ["_law_table_here", "_law_one_here", "_law_other"] (sp_level K) := by
  refine F.ok sc_L_level (fun vs H Q E h => ?_) (fun cdv A outer s H vs Q E hr h => ?_)
  · obtain ⟨a, xs, t, i, j, rfl, _⟩ := h
    rfl
  · obtain ⟨a, xs, t, i, j, rfl, hS, hR, hW, hi, hj, q⟩ := h
    have nd := sc_L_level.nd
    refine ⟨_, pss_cons (ps_par (i := 3) (j := 4) rfl nd rfl rfl (by decide) rfl rfl (pa_cons (pe_callB (call_min2 rfl) (by rfl) B.min (by decide +kernel) (pa_cons (pv 1) (pa_cons (pv 2) pa_nil))) (pa_cons (pe_callB (call_max2 rfl) (by rfl) B.max (by decide +kernel) (pa_cons (pv 1) (pa_cons (pv 2) pa_nil))) pa_nil)) rfl)
      (pss_one (ps_ret (pe_ifExp (pt_cmpR op_eq (pv 3) (pv 4) (nomark _)) pe_int (pe_ix ix_tup (pe_ix (IxR.or ix_list ix_tup) (pv 0) (pv 4) (fun _ _ => rfl)) (pv 3) (fun _ _ => rfl))))), ?_⟩
    refine ⟨.int (i : Int), rfl, .int (j : Int), rfl, _, _, rfl, .int (i : Int), rfl, .int (j : Int), rfl, _, _, rfl, _, _, rfl, ?_⟩
    rw [min_nat, max_nat]
    refine ⟨.int ((min i j : Nat) : Int), rfl, .int ((max i j : Nat) : Int), rfl, rfl, _, rfl, ite2 (fun e => ?_) (fun e => ?_)⟩
    · have e1 : ((min i j : Nat) : Int) = ((max i j : Nat) : Int) := V.int.inj (of_decide_eq_true e)
      have e2 : i = j := by omega
      have e3 : lev t i j = 0 := by unfold lev; rw [if_pos e2]
      rw [e3] at q
      exact q
    · have e2 : i ≠ j := fun z => e (decide_eq_true (by rw [z]; simp))
      have hm : max i j < t.length := by omega
      obtain ⟨v, p, hv, rfl, hp⟩ := hR.get hm
      obtain ⟨l1, l2⟩ := hW.row hm
      have hl : min i j < (t.getD (max i j) []).length := by omega
      have e3 : lev t i j = (t.getD (max i j) []).getD (min i j) 0 := by unfold lev; rw [if_neg e2]
      rw [e3] at q
      refine ⟨.ref a, rfl, .int ((max i j : Nat) : Int), rfl, ?_⟩
      rcases hS with hS | hS
      · exact .inl ⟨a, xs, _, _, rfl, rfl, hS, atI_nat hv, .int ((min i j : Nat) : Int), rfl, p, _, _, _, rfl, rfl, hp, atI_nat (map_at (getD_at hl)), q⟩
      · exact .inr ⟨a, xs, _, _, rfl, rfl, hS, atI_nat hv, .int ((min i j : Nat) : Int), rfl, p, _, _, _, rfl, rfl, hp, atI_nat (map_at (getD_at hl)), q⟩
/-! ### nested tables -/
def sp_nested (K : PySem.W.Frag) : Sp := fun vs H Q _ => ∃ (d c r : Addr) (n cnt : Nat) (g : Addr) (gs : List Int), vs = [.ref d, .int (cnt : Int), .ref g] ∧ Dr H d c r n ∧ n ≤ 800000 ∧ 1 ≤ cnt ∧ cnt ≤ 20 ∧ SqL K H g (gs.map V.int) ∧ g ≠ d ∧ g ≠ r ∧ GrOk gs ∧
  ∀ (H' : Hp) (v : V) (t : List (List Int)), TT K H' v t → WT t → t.length = cnt → Dr H' d c r (n + 2 * cnt) → Kp d r H H' → Q v H'
theorem ok_nested {f fN fO fL : Addr} {fd fdN fdO fdL : FuncData} (F : Fun K "_law_nested" "_law_nested" s_L_nested f fd) (DN : Df K mg "_law_next" s_L_next fN fdN ["_law_drawn", "_law_many"]) (DO : Df K mg "_law_one" s_L_one fO fdO ["_law_drawn", "_law_items"])
    (DL : Df K mg "_law_level" s_L_level fL fdL ["_law_table_here", "_law_one_here", "_law_other"]) (B : Bi mg) : FnOk P w K mg base CX0 3 f fd ["_law_drawn", "_law_count_here", "_law_grades_here"] (sp_nested K) := by
  have GN : FnOk P w K mg base CX0 1 fN fdN ["_law_drawn", "_law_many"] sp_next := ok_next DN.F B
  have GO : FnOk P w K mg base CX0 2 fO fdO ["_law_drawn", "_law_items"] (sp_one K) := ok_one DO.F DN B
  have GL : FnOk P w K mg base CX0 1 fL fdL ["_law_table_here", "_law_one_here", "_law_other"] (sp_level K) := ok_level DL.F B
  refine F.ok sc_L_nested (fun vs H Q E h => ?_) (fun cdv A outer s H vs Q E hr h => ?_)
  · obtain ⟨d, c, r, n, cnt, g, gs, rfl, _⟩ := h
    rfl
  · obtain ⟨d, c, r, n, cnt, g, gs, rfl, hD, hn, hc1, hc2, hg, gd, gr, hG, q⟩ := h
    have nd := sc_L_nested.nd
    have hr1 := hr.mono (show 1 ≤ 2 by decide)
    refine ⟨_, pss_cons (ps_set (i := 3) nd rfl (.inr rfl) (pe_lst (pa_cons (pe_tup pa_nil) pa_nil)))
      (pss_cons (ps_while PassesOwn.never (pt_cmpR op_lt (pe_len B (pv 3)) (pv 1) (nomark _))
        (pss_cons (ps_asg (pe_tup (pa_cons (pe_cl DN GN hr1 (pa_cons (pv 0) (pa_cons (pe_len B (pv 3)) pa_nil))) (pa_cons (pe_cl DO GO hr (pa_cons (pv 0) (pa_cons (pv 2) pa_nil))) pa_nil)))
            (pg_tup rfl (pgs_cons (pg_name (i := 4) nd rfl (.inr rfl)) (pgs_cons (pg_name (i := 5) nd rfl (.inr rfl)) pgs_nil))))
        (pss_cons (ps_setLc (i := 6) (own := [("_law_k", 7)]) (g := gName 7) (tt := tYes) rfl nd rfl rfl (sw_true rfl rfl rfl (by decide +kernel)) (pi_range1 rfl B.range (pa_cons (pe_len B (pv 3)) pa_nil)) (blkOk_by (N := N_L_nested) (sc := defScope s_L_nested) (by decide +kernel))
          (fun _ _ _ _ _ => pg_name (i := 7) nd rfl (.inl rfl)) (fun _ _ _ _ _ => pts_nil)
          (fun _ _ _ _ _ => pe_callB (call_max2 rfl) (by rfl) B.max (by decide +kernel) (pa_cons (pv 5) (pa_cons (pe_cl DL GL hr1 (pa_cons (pv 3) (pa_cons (pv 4) (pa_cons (pv 7) pa_nil)))) pa_nil))))
        (pss_one (ps_expr (pe_bm PySem.F.plainAttrs_list PySem.F.slot_list_append PySem.F.type_list_append mt_append (pv 3) (pa_cons (pe_callTy call_tuple_of (by rfl) B.tuple (by decide +kernel) (pa_cons (pv 6) pa_nil)) pa_nil)))))))
      (pss_one (ps_ret (pe_callTy call_tuple_of (by rfl) B.tuple (by decide +kernel) (pa_cons (pv 3) pa_nil))))), ?_⟩
    -- rows = [()]
    refine ⟨Nat.zero_le _, fun p0 hp0 => ⟨(by show 1 ≤ sizeLine; decide), fun rw hrw => ?_⟩⟩
    have D0 := (hD.new (o := .tup []) hp0).new (o := .lst [.ref p0]) hrw
    have k0 : Kp d r H (upd (upd H p0 (.tup [])) rw (.lst [.ref p0])) := (Kp.new hp0).trans (Kp.new hrw)
    have nrw := (hD.new (o := .tup []) hp0).ne hrw
    have hrwH : H rw = none := Sm.free (Sm.new (o := .tup []) hp0) hrw
    refine ⟨fun m σ Hx => ∃ x4 x5 x6 xs t, σ = [some (.ref d), some (.int (cnt : Int)), some (.ref g), some (.ref rw), x4, x5, x6, none] ∧ Hx rw = some (.lst xs) ∧ Rows K Hx xs t ∧ WT t ∧ 0 < t.length ∧ t.length ≤ cnt ∧ m = cnt - t.length ∧ Dr Hx d c r (n + 2 * t.length) ∧ Kp d r H Hx,
      ⟨cnt - 1, none, none, none, [.ref p0], [[]], rfl, upd_same, ?_, ?_, by decide, by show 1 ≤ cnt; exact hc1, rfl, D0.mono (by omega), k0⟩, fun m σ Hx hW => ?_⟩
    · refine (Rows.nil.snoc (v := .ref p0) (ns := []) ⟨p0, rfl, SqT.of ?_⟩)
      rw [upd_ne (ne_of_none upd_same hrw)]
      exact upd_same
    · exact WT.nil.snoc rfl (fun x hx => by simp at hx)
    obtain ⟨x4, x5, x6, xs, t, rfl, hx, hR, hT, ht0, htc, rfl, hDx, hk⟩ := hW
    have hxl : xs.length = t.length := hR.1
    have nD := hDx
    refine ⟨.ref rw, rfl, rw, xs, rfl, .inl (SqL.of hx), .int (cnt : Int), rfl, _, _, rfl, rfl, _, rfl, ite2 (fun e => ?_) (fun e => ?_)⟩
    · have e1 : (xs.length : Int) < (cnt : Int) := of_decide_eq_true e
      have e2 : t.length < cnt := by omega
      refine ⟨fun σ' H' => ∃ x4 x5 x6 xs t', σ' = [some (.ref d), some (.int (cnt : Int)), some (.ref g), some (.ref rw), x4, x5, x6, none] ∧ H' rw = some (.lst xs) ∧ Rows K H' xs t' ∧ WT t' ∧ t'.length = t.length + 1 ∧ Dr H' d c r (n + 2 * (t.length + 1)) ∧ Kp d r H H', fun σ' H' hN => ?_, ?_⟩
      · obtain ⟨y4, y5, y6, ys, t', h1, h2, h3, h4, h5, h6, h7⟩ := hN
        exact ⟨cnt - t'.length, by omega, y4, y5, y6, ys, t', h1, h2, h3, h4, by omega, by omega, rfl, by rw [h5]; exact h6, h7⟩
      -- near, level
      refine ⟨.ref d, rfl, .ref rw, rfl, rw, xs, rfl, .inl (SqL.of hx), d, c, r, _, _, rfl, hDx, by omega, by omega, by omega, fun H1 k1 l1 D1 kp1 => ?_⟩
      refine ⟨.ref d, rfl, .ref g, rfl, d, c, r, _, g, gs.map V.int, rfl, D1, by omega, (hk.trans kp1).sqL gd gr hg, gd, gr, by rw [List.length_map]; exact hG.1, by rw [List.length_map]; have := hG.2.1; omega, fun H2 i2 v2 hv2 D2 kp2 => ?_⟩
      obtain ⟨lv, hlv, rfl⟩ : ∃ lv : Int, LvOk lv ∧ v2 = .int lv := by
        rw [List.getElem?_map] at hv2
        cases e3 : gs[i2]? with
        | none => rw [e3] at hv2; cases hv2
        | some z =>
          rw [e3] at hv2
          exact ⟨z, hG.2.2 z (List.mem_of_getElem? e3), (Option.some.inj hv2).symm⟩
      refine ⟨(by show 2 ≤ sizeLine; decide), fun p3 hp3 => ?_⟩
      refine ⟨p3, _, rfl, SqT.of upd_same, rfl, _, _, rfl, _, _, rfl, rfl, ?_⟩
      have kp12 := kp1.trans kp2
      have hx2 : H2 rw = some (.lst xs) := kp12 rw _ hx nrw.1 nrw.2.2
      have R2 : Rows K H2 xs t := hR.kp hDx kp12
      have D3 := D2.new (o := .tup [.int (k1 : Int), .int lv]) hp3
      have R3 : Rows K (upd H2 p3 (.tup [.int (k1 : Int), .int lv])) xs t := R2.same (Sm.new hp3)
      have hx3 : (upd H2 p3 (.tup [.int (k1 : Int), .int lv])) rw = some (.lst xs) := Sm.new hp3 _ _ hx2
      have k3 : Kp d r H (upd H2 p3 (.tup [.int (k1 : Int), .int lv])) := hk.trans (kp12.trans (Kp.new hp3))
      generalize upd H2 p3 (.tup [.int (k1 : Int), .int lv]) = H3 at D3 R3 hx3 k3
      -- row
      refine ⟨.ref rw, rfl, rw, xs, rfl, .inl (SqL.of hx3), _, rfl, by omega, by omega, fun D hDn => lc_range (n := (xs.length : Int).toNat) (fun i Hy => ∃ ns : List Int, Hy D = some (.lst (ns.map V.int)) ∧ ns.length = i ∧ (∀ x ∈ ns, LvOk x) ∧ Sm H3 Hy) ⟨[], upd_same, rfl, fun x hx => by simp at hx, Sm.new hDn⟩ (fun i Hy hi hP => ?_) (fun Hy hP => ?_)⟩
      · obtain ⟨ns, h1, h2, h3, h4⟩ := hP
        have hi' : i < t.length := by omega
        refine ⟨rfl, .int lv, rfl, .ref rw, rfl, .int (k1 : Int), rfl, .int (0 + (i : Int)), rfl, rw, xs, t, k1, i, by rw [Int.zero_add]; rfl, .inl (SqL.of (h4 _ _ hx3)), R3.same h4, hT, by omega, hi', ?_⟩
        refine ⟨_, _, rfl, ns.map V.int, h1, by rw [List.length_map]; exact small1000 (by omega), ns ++ [if lev t k1 i > lv then lev t k1 i else lv], ?_, by rw [List.length_append, h2]; rfl, ?_, ?_⟩
        · rw [upd_same, List.map_append]; rfl
        · intro x hx
          rcases List.mem_append.mp hx with hx | hx
          · exact h3 x hx
          · rw [List.mem_singleton.mp hx]
            by_cases e4 : k1 = i
            · have e5 : lev t k1 i = 0 := by unfold lev; rw [if_pos e4]
              rw [e5, if_neg (by have := hlv.1; omega)]
              exact hlv
            · have e5 := hT.lev (i := k1) (j := i) (by omega) hi' e4
              split
              · exact e5
              · exact hlv
        · intro b o e
          have hb : b ≠ D := ne_of_none e hDn
          rw [upd_ne hb]
          exact h4 b o e
      · obtain ⟨ns, h1, h2, h3, h4⟩ := hP
        have h2' : ns.length = t.length := by omega
        have hx4 := h4 _ _ hx3
        -- rows.append(tuple(row))
        refine ⟨.ref rw, rfl, .inl ⟨rfl, _, SqL.of hx4⟩, .ref D, rfl, D, _, rfl, .inl ⟨SqL.of h1, fun p5 hp5 => ?_⟩⟩
        have hx5 : (upd Hy p5 (.tup (ns.map V.int))) rw = some (.lst xs) := Sm.new hp5 _ _ hx4
        refine ⟨rw, _, _, rfl, rfl, hx5, small1000 (by omega), ?_⟩
        have R5 : Rows K (upd Hy p5 (.tup (ns.map V.int))) (xs ++ [.ref p5]) (t ++ [ns]) := ((R3.same h4).same (Sm.new hp5)).snoc ⟨p5, rfl, SqT.of upd_same⟩
        refine ⟨_, _, _, _, _, rfl, upd_same, R5.upd hx5, hT.snoc h2' h3, by rw [List.length_append]; rfl, ?_, ?_⟩
        · exact (((D3.same h4).new hp5).upd nrw.1 nrw.2.1 nrw.2.2).mono (by omega)
        · intro b o e n1 n2
          have hb : b ≠ rw := ne_of_none e hrwH
          rw [upd_ne hb]
          exact Sm.new hp5 _ _ (h4 _ _ (k3 b o e n1 n2))
    · have e1 : ¬ (xs.length : Int) < (cnt : Int) := fun z => e (decide_eq_true z)
      have e2 : t.length = cnt := by omega
      refine ⟨.ref rw, rfl, rw, xs, rfl, .inl ⟨SqL.of hx, fun p hp => ?_⟩⟩
      exact q _ _ t ⟨p, xs, rfl, SqT.of upd_same, hR.same (Sm.new hp)⟩ hT e2 ((hDx.new hp).mono (by omega)) (hk.trans (Kp.new hp))
end
section
variable {P : Program} {w : World} {K : PySem.W.Frag} {mg : Str → Option Value} {base : Heap}
/-! ### rows of levels -/
def sp_levels (K : PySem.W.Frag) : Sp := fun vs H Q _ => ∃ (d c r : Addr) (n m : Nat) (g : Addr) (gs : List Int), vs = [.ref d, .int (m : Int), .ref g] ∧ Dr H d c r n ∧ n ≤ 800000 ∧ m ≤ 20 ∧ SqL K H g (gs.map V.int) ∧ g ≠ d ∧ g ≠ r ∧ GrOk gs ∧
  ∀ (H' : Hp) (v : V) (ns : List Int), IT K H' v ns → ns.length = m → (∀ x ∈ ns, LvOk x) → Dr H' d c r (n + m) → Kp d r H H' → Q v H'
theorem gr_at {gs : List Int} {i : Nat} {v : V} (h : ∀ x ∈ gs, LvOk x) (e : (gs.map V.int)[i]? = some v) : ∃ lv : Int, LvOk lv ∧ v = .int lv := by
  rw [List.getElem?_map] at e
  cases e3 : gs[i]? with
  | none => rw [e3] at e; cases e
  | some z =>
    rw [e3] at e
    exact ⟨z, h z (List.mem_of_getElem? e3), (Option.some.inj e).symm⟩
theorem ok_levels {f fN fO : Addr} {fd fdN fdO : FuncData} (F : Fun K "_law_levels" "_law_levels" s_L_levels f fd) (DN : Df K mg "_law_next" s_L_next fN fdN ["_law_drawn", "_law_many"]) (DO : Df K mg "_law_one" s_L_one fO fdO ["_law_drawn", "_law_items"]) (B : Bi mg) :
    FnOk P w K mg base CX0 3 f fd ["_law_drawn", "_law_many", "_law_grades_here"] (sp_levels K) := by
  have GO : FnOk P w K mg base CX0 2 fO fdO ["_law_drawn", "_law_items"] (sp_one K) := ok_one DO.F DN B
  refine F.ok sc_L_levels (fun vs H Q E h => ?_) (fun cdv A outer s H vs Q E hr h => ?_)
  · obtain ⟨d, c, r, n, m, g, gs, rfl, _⟩ := h
    rfl
  · obtain ⟨d, c, r, n, m, g, gs, rfl, hD, hn, hm, hg, gd, gr, hG, q⟩ := h
    have nd := sc_L_levels.nd
    refine ⟨_, pss_one (ps_ret (pe_callTy call_tuple_of (by rfl) B.tuple (by decide +kernel) (pa_cons (pe_lc (own := [("_law_k", 3)]) (g := gName 3) (tt := tYes) rfl nd (pi_range1 rfl B.range (pa_cons (pv 1) pa_nil)) (blkOk_by (N := N_L_levels) (sc := defScope s_L_levels) (by decide +kernel))
      (fun _ _ _ _ _ => pg_name (i := 3) nd rfl (.inl rfl)) (fun _ _ _ _ _ => pts_nil) (fun _ _ _ _ _ => pe_cl DO GO hr (pa_cons (pv 0) (pa_cons (pv 2) pa_nil)))) pa_nil))), ?_⟩
    refine ⟨.int (m : Int), rfl, _, rfl, by omega, by omega, fun D hDn => lc_range (n := (m : Int).toNat) (fun i Hx => ∃ ns : List Int, Hx D = some (.lst (ns.map V.int)) ∧ ns.length = i ∧ (∀ x ∈ ns, LvOk x) ∧ Dr Hx d c r (n + i) ∧ Kp d r H Hx) ⟨[], upd_same, rfl, fun x hx => by simp at hx, hD.new hDn, Kp.new hDn⟩ (fun i Hx hi hP => ?_) (fun Hx hP => ?_)⟩
    · obtain ⟨ns, h1, h2, h3, h4, h5⟩ := hP
      have nD := hD.ne hDn
      refine ⟨rfl, .ref d, rfl, .ref g, rfl, d, c, r, n + i, g, gs.map V.int, rfl, h4, by omega, h5.sqL gd gr hg, gd, gr, by rw [List.length_map]; exact hG.1, by rw [List.length_map]; have := hG.2.1; omega, fun H2 i2 v2 hv2 D2 kp2 => ?_⟩
      obtain ⟨lv, hlv, rfl⟩ := gr_at hG.2.2 hv2
      have hD2 : H2 D = some (.lst (ns.map V.int)) := kp2 D _ h1 nD.1 nD.2.2
      refine ⟨ns.map V.int, hD2, by rw [List.length_map]; exact small1000 (by omega), ns ++ [lv], ?_, by rw [List.length_append, h2]; rfl, ?_, D2.upd nD.1 nD.2.1 nD.2.2, ?_⟩
      · rw [upd_same, List.map_append]; rfl
      · intro x hx
        rcases List.mem_append.mp hx with hx | hx
        · exact h3 x hx
        · rw [List.mem_singleton.mp hx]; exact hlv
      · intro b o e n1 n2
        rw [upd_ne (ne_of_none e hDn)]
        exact kp2 b o (h5 b o e n1 n2) n1 n2
    · obtain ⟨ns, h1, h2, h3, h4, h5⟩ := hP
      have e2 : (m : Int).toNat = m := by omega
      rw [e2] at h2 h4
      refine ⟨D, _, rfl, .inl ⟨SqL.of h1, fun p hp => ?_⟩⟩
      exact q _ _ ns ⟨p, rfl, SqT.of upd_same⟩ h2 h3 (h4.new hp) (h5.trans (Kp.new hp))
def sp_any (K : PySem.W.Frag) : Sp := fun vs H Q _ => ∃ (d c r : Addr) (n m : Nat) (wd : Int), vs = [.ref d, .int (m : Int), .int wd] ∧ Dr H d c r n ∧ n ≤ 800000 ∧ m ≤ 20 ∧ 0 < wd ∧ wd ≤ 1000000000000 ∧
  ∀ (H' : Hp) (v : V) (ns : List Int), IT K H' v ns → ns.length = m → (∀ x ∈ ns, LvOk x) → Dr H' d c r (n + m) → Kp d r H H' → Q v H'
theorem ok_any {f fN : Addr} {fd fdN : FuncData} (F : Fun K "_law_any" "_law_any" s_L_any f fd) (DN : Df K mg "_law_next" s_L_next fN fdN ["_law_drawn", "_law_many"]) (B : Bi mg) :
    FnOk P w K mg base CX0 3 f fd ["_law_drawn", "_law_many", "_law_wide"] (sp_any K) := by
  have GN : FnOk P w K mg base CX0 2 fN fdN ["_law_drawn", "_law_many"] sp_next := ok_next DN.F B
  refine F.ok sc_L_any (fun vs H Q E h => ?_) (fun cdv A outer s H vs Q E hr h => ?_)
  · obtain ⟨d, c, r, n, m, wd, rfl, _⟩ := h
    rfl
  · obtain ⟨d, c, r, n, m, wd, rfl, hD, hn, hm, w0, w1, q⟩ := h
    have nd := sc_L_any.nd
    refine ⟨_, pss_one (ps_ret (pe_callTy call_tuple_of (by rfl) B.tuple (by decide +kernel) (pa_cons (pe_lc (own := [("_law_k", 3)]) (g := gName 3) (tt := tYes) rfl nd (pi_range1 rfl B.range (pa_cons (pv 1) pa_nil)) (blkOk_by (N := N_L_any) (sc := defScope s_L_any) (by decide +kernel))
      (fun _ _ _ _ _ => pg_name (i := 3) nd rfl (.inl rfl)) (fun _ _ _ _ _ => pts_nil) (fun _ _ _ _ _ => pe_op op_add pe_int (pe_cl DN GN hr (pa_cons (pv 0) (pa_cons (pv 2) pa_nil))))) pa_nil))), ?_⟩
    refine ⟨.int (m : Int), rfl, _, rfl, by omega, by omega, fun D hDn => lc_range (n := (m : Int).toNat) (fun i Hx => ∃ ns : List Int, Hx D = some (.lst (ns.map V.int)) ∧ ns.length = i ∧ (∀ x ∈ ns, LvOk x) ∧ Dr Hx d c r (n + i) ∧ Kp d r H Hx) ⟨[], upd_same, rfl, fun x hx => by simp at hx, hD.new hDn, Kp.new hDn⟩ (fun i Hx hi hP => ?_) (fun Hx hP => ?_)⟩
    · obtain ⟨ns, h1, h2, h3, h4, h5⟩ := hP
      have nD := hD.ne hDn
      refine ⟨rfl, .ref d, rfl, .int wd, rfl, d, c, r, n + i, wd, rfl, h4, by omega, w0, by omega, fun H2 k2 l2 D2 kp2 => ?_⟩
      have hD2 : H2 D = some (.lst (ns.map V.int)) := kp2 D _ h1 nD.1 nD.2.2
      refine ⟨_, _, rfl, rfl, ns.map V.int, hD2, by rw [List.length_map]; exact small1000 (by omega), ns ++ [1 + (k2 : Int)], ?_, by rw [List.length_append, h2]; rfl, ?_, D2.upd nD.1 nD.2.1 nD.2.2, ?_⟩
      · rw [upd_same, List.map_append]; rfl
      · intro x hx
        rcases List.mem_append.mp hx with hx | hx
        · exact h3 x hx
        · rw [List.mem_singleton.mp hx]; exact ⟨by omega, by omega⟩
      · intro b o e n1 n2
        rw [upd_ne (ne_of_none e hDn)]
        exact kp2 b o (h5 b o e n1 n2) n1 n2
    · obtain ⟨ns, h1, h2, h3, h4, h5⟩ := hP
      have e2 : (m : Int).toNat = m := by omega
      rw [e2] at h2 h4
      refine ⟨D, _, rfl, .inl ⟨SqL.of h1, fun p hp => ?_⟩⟩
      exact q _ _ ns ⟨p, rfl, SqT.of upd_same⟩ h2 h3 (h4.new hp) (h5.trans (Kp.new hp))
/-! ### levels raised -/
def sp_raised (K : PySem.W.Frag) : Sp := fun vs H Q _ => ∃ (d c r : Addr) (n : Nat) (tv : V) (t : List (List Int)) (g : Addr) (gs : List Int), vs = [.ref d, tv, .ref g] ∧ Dr H d c r n ∧ n ≤ 800000 ∧ TT K H tv t ∧ WT t ∧ t.length ≤ 20 ∧ H g = some (.lst (gs.map V.int)) ∧ g ≠ d ∧ g ≠ r ∧ GrOk gs ∧
  ∀ (H' : Hp) (v : V) (t' : List (List Int)), TT K H' v t' → WT t' → t'.length = t.length → Dr H' d c r (n + 400) → Kp d r H H' → Q v H'
theorem ok_raised {f fN fO : Addr} {fd fdN fdO : FuncData} (F : Fun K "_law_raised" "_law_raised" s_L_raised f fd) (DN : Df K mg "_law_next" s_L_next fN fdN ["_law_drawn", "_law_many"]) (DO : Df K mg "_law_one" s_L_one fO fdO ["_law_drawn", "_law_items"]) (B : Bi mg) :
    FnOk P w K mg base CX0 3 f fd ["_law_drawn", "_law_table_here", "_law_grades_here"] (sp_raised K) := by
  have GO : FnOk P w K mg base CX0 2 fO fdO ["_law_drawn", "_law_items"] (sp_one K) := ok_one DO.F DN B
  refine F.ok sc_L_raised (fun vs H Q E h => ?_) (fun cdv A outer s H vs Q E hr h => ?_)
  · obtain ⟨d, c, r, n, tv, t, g, gs, rfl, _⟩ := h
    rfl
  · obtain ⟨d, c, r, n, tv, t, g, gs, rfl, hD, hn, ⟨tp, rs, rfl, htp, hR⟩, hT, h20, hg, gd, gr, hG, q⟩ := h
    have nd := sc_L_raised.nd
    refine ⟨_, pss_cons (ps_set (i := 3) nd rfl (.inl rfl) (pe_lst pa_nil))
      (pss_cons (ps_for PassesOwn.never rfl (pi_tup (pv 1)) (pg_name (i := 4) nd rfl (.inl rfl))
        (pss_one (ps_expr (pe_bm PySem.F.plainAttrs_list PySem.F.slot_list_append PySem.F.type_list_append mt_append (pv 3) (pa_cons (pe_callTy call_tuple_of (by rfl) B.tuple (by decide +kernel) (pa_cons
          (pe_lc (own := [("_law_level_here", 5)]) (g := gName 5) (tt := tYes) rfl nd (pi_tup (pv 4)) (blkOk_by (N := N_L_raised) (sc := defScope s_L_raised) (by decide +kernel))
            (fun _ _ _ _ _ => pg_name (i := 5) nd rfl (.inl rfl)) (fun _ _ _ _ _ => pts_nil) (fun _ _ _ _ _ => pe_callB (call_max2 rfl) (by rfl) B.max (by decide +kernel) (pa_cons (pv 5) (pa_cons (pe_cl DO GO hr (pa_cons (pv 0) (pa_cons (pe_op op_cat (pv 2) (pe_lst (pa_cons pe_int (pa_cons pe_int pa_nil)))) pa_nil))) pa_nil)))) pa_nil)) pa_nil)))))
      (pss_one (ps_ret (pe_callTy call_tuple_of (by rfl) B.tuple (by decide +kernel) (pa_cons (pv 3) pa_nil))))), ?_⟩
    refine ⟨Nat.zero_le _, fun o ho => ?_⟩
    have no := hD.ne ho
    refine ⟨.ref tp, rfl, tp, rfl, ⟨_, (Sm.new ho).sqT htp⟩, for_tup (xs := rs) (fun i σ Hx => ∃ x4 xs t', σ = [some (.ref d), some (.ref tp), some (.ref g), some (.ref o), x4, none] ∧ Hx o = some (.lst xs) ∧ Rows K Hx xs t' ∧ WT t' ∧ t'.length = i ∧ Dr Hx d c r (n + 20 * i) ∧ Kp d r H Hx)
      ⟨none, [], [], rfl, upd_same, Rows.nil, WT.nil, rfl, hD.new ho, Kp.new ho⟩ (fun i σ Hx hi hP => ?_) (fun i v σ Hx hv hP => ?_) (fun σ Hx hP => ?_)⟩
    · obtain ⟨x4, xs, t', _, _, _, _, _, _, hk⟩ := hP
      exact hD.kpT hk htp
    · obtain ⟨x4, xs, t', rfl, hx, hR', hT', hl, hDx, hk⟩ := hP
      have hir : i < rs.length := (List.getElem?_eq_some_iff.mp hv).1
      have hit : i < t.length := by rw [← hR.1]; exact hir
      obtain ⟨v', p, hv', rfl, hp⟩ := hR.get hit
      obtain rfl : v = .ref p := Option.some.inj (hv.symm.trans hv')
      obtain ⟨l1, l2⟩ := hT.row hit
      have hpx := hD.kpT hk hp
      refine ⟨.ref o, rfl, .inl ⟨rfl, _, SqL.of hx⟩, .ref p, rfl, p, rfl, ⟨_, hpx⟩, fun D hDn => lc_tup (xs := (t.getD i []).map V.int) (fun j Hy => ∃ ns : List Int, Hy D = some (.lst (ns.map V.int)) ∧ ns.length = j ∧ (∀ x ∈ ns, LvOk x) ∧ Dr Hy d c r (n + 20 * i + j) ∧ Kp d r Hx Hy) ⟨[], upd_same, rfl, fun x hx => by simp at hx, hDx.new hDn, Kp.new hDn⟩ (fun j Hy hj hP => ?_) (fun j y Hy hy hP => ?_) (fun Hy hP => ?_)⟩
      · obtain ⟨ns, _, _, _, _, h5⟩ := hP
        exact hDx.kpT h5 hpx
      · obtain ⟨ns, h1, h2, h3, h4, h5⟩ := hP
        obtain ⟨y0, hy0, rfl⟩ := gr_at l2 hy
        have hj : j < i := by
          have := (List.getElem?_eq_some_iff.mp hy).1
          rw [List.length_map] at this
          omega
        have nD := hDx.ne hDn
        have hgy : Hy g = some (.lst (gs.map V.int)) := h5 g _ (hk g _ hg gd gr) gd gr
        refine ⟨rfl, .int y0, rfl, .ref d, rfl, .ref g, rfl, (by show 2 ≤ sizeLine; decide), fun p1 hp1 => ?_⟩
        have hg1 : (upd Hy p1 (.lst [.int 1, .int 1])) g = some (.lst (gs.map V.int)) := Sm.new hp1 _ _ hgy
        refine ⟨g, p1, _, _, rfl, rfl, hg1, upd_same, by rw [List.length_map]; have := hG.2.1; exact Nat.le_of_lt (small1000 (show gs.length + 2 ≤ 1000 by omega)), fun p2 hp2 => ?_⟩
        have Dy2 := (h4.new (o := .lst [.int 1, .int 1]) hp1).new (o := .lst (gs.map V.int ++ [.int 1, .int 1])) hp2
        have np2 := (h4.new (o := .lst [.int 1, .int 1]) hp1).ne hp2
        refine ⟨d, c, r, _, p2, _, rfl, Dy2, by omega, SqL.of upd_same, np2.1, np2.2.2, by rw [List.length_append]; show 0 < _ + 2; omega, by rw [List.length_append, List.length_map]; have := hG.2.1; show _ + 2 ≤ 1000; omega, fun H3 i3 v3 hv3 D3 kp3 => ?_⟩
        obtain ⟨lv, hlv, rfl⟩ : ∃ lv : Int, LvOk lv ∧ v3 = .int lv := by
          refine gr_at (gs := gs ++ [1, 1]) (fun x hx => ?_) (by rw [List.map_append]; exact hv3)
          rcases List.mem_append.mp hx with hx | hx
          · exact hG.2.2 x hx
          · rcases List.mem_cons.mp hx with hx | hx
            · rw [hx]; exact ⟨by decide, by decide⟩
            · rw [List.mem_singleton.mp hx]; exact ⟨by decide, by decide⟩
        have kq : Kp d r Hy H3 := ((Kp.new hp1).trans (Kp.new hp2)).trans kp3
        have hD3 : H3 D = some (.lst (ns.map V.int)) := kq D _ h1 nD.1 nD.2.2
        refine ⟨_, _, rfl, ns.map V.int, hD3, by rw [List.length_map]; exact small1000 (by omega), ns ++ [if lv > y0 then lv else y0], ?_, by rw [List.length_append, h2]; rfl, ?_, (D3.upd nD.1 nD.2.1 nD.2.2), ?_⟩
        · rw [upd_same, List.map_append]; rfl
        · intro x hx
          rcases List.mem_append.mp hx with hx | hx
          · exact h3 x hx
          · rw [List.mem_singleton.mp hx]
            split
            · exact hlv
            · exact hy0
        · intro b u e n1 n2
          rw [upd_ne (ne_of_none e hDn)]
          exact kq b u (h5 b u e n1 n2) n1 n2
      · obtain ⟨ns, h1, h2, h3, h4, h5⟩ := hP
        rw [List.length_map, l1] at h2 h4
        have hxy : Hy o = some (.lst xs) := h5 o _ hx no.1 no.2.2
        refine ⟨D, _, rfl, .inl ⟨SqL.of h1, fun p5 hp5 => ?_⟩⟩
        have hx5 : (upd Hy p5 (.tup (ns.map V.int))) o = some (.lst xs) := Sm.new hp5 _ _ hxy
        have hxl : xs.length = i := by rw [hR'.1, hl]
        refine ⟨o, _, _, rfl, rfl, hx5, small1000 (by omega), ?_⟩
        have R5 : Rows K (upd Hy p5 (.tup (ns.map V.int))) (xs ++ [.ref p5]) (t' ++ [ns]) := ((hR'.kp hDx h5).same (Sm.new hp5)).snoc ⟨p5, rfl, SqT.of upd_same⟩
        refine ⟨_, _, _, rfl, upd_same, R5.upd hx5, hT'.snoc (by omega) h3, by rw [List.length_append, hl]; rfl, ((h4.new hp5).upd no.1 no.2.1 no.2.2).mono (by omega), ?_⟩
        intro b u e n1 n2
        rw [upd_ne (ne_of_none e ho)]
        exact Sm.new hp5 _ _ (h5 b u (hk b u e n1 n2) n1 n2)
    · obtain ⟨x4, xs, t', rfl, hx, hR', hT', hl, hDx, hk⟩ := hP
      refine ⟨.ref o, rfl, o, xs, rfl, .inl ⟨SqL.of hx, fun p hp => ?_⟩⟩
      have hrl := hR.1
      exact q _ _ t' ⟨p, xs, rfl, SqT.of upd_same, hR'.same (Sm.new hp)⟩ hT' (by omega) ((hDx.new hp).mono (by omega)) (hk.trans (Kp.new hp))
end
section
variable {P : Program} {w : World} {K : PySem.W.Frag} {mg : Str → Option Value} {base : Heap}
/-! ### tables -/
def sp_table (K : PySem.W.Frag) : Sp := fun vs H Q _ => ∃ (d c r : Addr) (n cnt : Nat), vs = [.ref d, .int (cnt : Int)] ∧ Dr H d c r n ∧ n ≤ 700000 ∧ 1 ≤ cnt ∧ cnt ≤ 20 ∧
  ∀ (H' : Hp) (v : V) (t : List (List Int)), TT K H' v t → WT t → t.length = cnt → Dr H' d c r (n + 500) → Kp d r H H' → Q v H'
structure DrawDefs (K : PySem.W.Frag) (mg : Str → Option Value) : Prop where
  B : Bi mg
  next : ∃ f fd, Df K mg "_law_next" s_L_next f fd ["_law_drawn", "_law_many"]
  one : ∃ f fd, Df K mg "_law_one" s_L_one f fd ["_law_drawn", "_law_items"]
  count : ∃ f fd, Df K mg "_law_count" s_L_count f fd ["_law_drawn", "_law_most"]
  grades : ∃ f fd, Df K mg "_law_grades" s_L_grades f fd ["_law_drawn"]
  level : ∃ f fd, Df K mg "_law_level" s_L_level f fd ["_law_table_here", "_law_one_here", "_law_other"]
  nested : ∃ f fd, Df K mg "_law_nested" s_L_nested f fd ["_law_drawn", "_law_count_here", "_law_grades_here"]
  raised : ∃ f fd, Df K mg "_law_raised" s_L_raised f fd ["_law_drawn", "_law_table_here", "_law_grades_here"]
  levels : ∃ f fd, Df K mg "_law_levels" s_L_levels f fd ["_law_drawn", "_law_many", "_law_grades_here"]
  any : ∃ f fd, Df K mg "_law_any" s_L_any f fd ["_law_drawn", "_law_many", "_law_wide"]
theorem ok_table {f : Addr} {fd : FuncData} (F : Fun K "_law_table" "_law_table" s_L_table f fd) (T : DrawDefs K mg) : FnOk P w K mg base CX0 4 f fd ["_law_drawn", "_law_count_here"] (sp_table K) := by
  have B := T.B
  obtain ⟨fN, fdN, DN⟩ := T.next
  obtain ⟨fO, fdO, DO⟩ := T.one
  obtain ⟨fG, fdG, DG⟩ := T.grades
  obtain ⟨fL, fdL, DL⟩ := T.level
  obtain ⟨fE, fdE, DE⟩ := T.nested
  obtain ⟨fR, fdR, DR⟩ := T.raised
  obtain ⟨fS, fdS, DS⟩ := T.levels
  obtain ⟨fA, fdA, DA⟩ := T.any
  have GN : FnOk P w K mg base CX0 3 fN fdN ["_law_drawn", "_law_many"] sp_next := ok_next DN.F B
  have GO : FnOk P w K mg base CX0 3 fO fdO ["_law_drawn", "_law_items"] (sp_one K) := (ok_one DO.F DN B).mono (by decide)
  have GG : FnOk P w K mg base CX0 3 fG fdG ["_law_drawn"] sp_grades := (ok_grades DG.F DN B).mono (by decide)
  have GE : FnOk P w K mg base CX0 3 fE fdE ["_law_drawn", "_law_count_here", "_law_grades_here"] (sp_nested K) := ok_nested DE.F DN DO DL B
  have GR : FnOk P w K mg base CX0 3 fR fdR ["_law_drawn", "_law_table_here", "_law_grades_here"] (sp_raised K) := ok_raised DR.F DN DO B
  have GS : FnOk P w K mg base CX0 3 fS fdS ["_law_drawn", "_law_many", "_law_grades_here"] (sp_levels K) := ok_levels DS.F DN DO B
  have GA : FnOk P w K mg base CX0 3 fA fdA ["_law_drawn", "_law_many", "_law_wide"] (sp_any K) := ok_any DA.F DN B
  refine F.ok sc_L_table (fun vs H Q E h => ?_) (fun cdv A outer s H vs Q E hr h => ?_)
  · obtain ⟨d, c, r, n, cnt, rfl, _⟩ := h
    rfl
  · obtain ⟨d, c, r, n, cnt, rfl, hD, hn, c1, c2, q⟩ := h
    have nd := sc_L_table.nd
    refine ⟨_, pss_cons (ps_asg (pe_tup (pa_cons (pe_cl DG GG hr (pa_cons (pv 0) pa_nil)) (pa_cons (pe_cl DN GN hr (pa_cons (pv 0) (pa_cons pe_int pa_nil))) pa_nil)))
            (pg_tup rfl (pgs_cons (pg_name (i := 2) nd rfl (.inr rfl)) (pgs_cons (pg_name (i := 3) nd rfl (.inl rfl)) pgs_nil))))
      (pss_cons (ps_if (pt_cmpR op_eq (pv 3) pe_int (nomark _)) (pss_one (ps_ret (pe_callTy call_tuple_of (by rfl) B.tuple (by decide +kernel) (pa_cons
          (pe_lc (own := [("_law_one_here", 4)]) (g := gName 4) (tt := tYes) rfl nd (pi_range1 rfl B.range (pa_cons (pv 1) pa_nil)) (blkOk_by (N := N_L_table) (sc := defScope s_L_table) (by decide +kernel))
            (fun _ _ _ _ _ => pg_name (i := 4) nd rfl (.inl rfl)) (fun _ _ _ _ _ => pts_nil) (fun _ _ _ _ _ => pe_cl DS GS hr (pa_cons (pv 0) (pa_cons (pv 4) (pa_cons (pv 2) pa_nil))))) pa_nil)))) pss_nil)
      (pss_cons (ps_if (pt_cmpR op_eq (pv 3) pe_int (nomark _)) (pss_cons (ps_set (i := 5) nd rfl (.inr rfl) (pe_cl DO GO hr (pa_cons (pv 0) (pa_cons (pe_lst (pa_cons pe_int (pa_cons pe_int (pa_cons (pe_op op_pow pe_int pe_int) pa_nil)))) pa_nil))))
          (pss_one (ps_ret (pe_callTy call_tuple_of (by rfl) B.tuple (by decide +kernel) (pa_cons
          (pe_lc (own := [("_law_one_here", 4)]) (g := gName 4) (tt := tYes) rfl nd (pi_range1 rfl B.range (pa_cons (pv 1) pa_nil)) (blkOk_by (N := N_L_table) (sc := defScope s_L_table) (by decide +kernel))
            (fun _ _ _ _ _ => pg_name (i := 4) nd rfl (.inl rfl)) (fun _ _ _ _ _ => pts_nil) (fun _ _ _ _ _ => pe_cl DA GA hr (pa_cons (pv 0) (pa_cons (pv 4) (pa_cons (pv 5) pa_nil))))) pa_nil))))) pss_nil)
      (pss_cons (ps_set (i := 6) nd rfl (.inl rfl) (pe_cl DE GE hr (pa_cons (pv 0) (pa_cons (pv 1) (pa_cons (pv 2) pa_nil)))))
      (pss_cons (ps_if (PW.pt (pw_or (pt_cmpR op_eq (pv 3) pe_int (nomark _)) (pw_or1 (pt_cmpR op_eq (pv 1) pe_int (nomark _))))) (pss_one (ps_ret (pv 6))) pss_nil)
      (pss_cons (ps_if (pt_cmpR op_eq (pv 3) pe_int (nomark _)) (pss_one (ps_ret (pe_cl DR GR hr (pa_cons (pv 0) (pa_cons (pv 6) (pa_cons (pv 2) pa_nil)))))) pss_nil)
      (pss_cons (ps_set (i := 4) nd rfl (.inl rfl) (pe_op op_add pe_int (pe_cl DN GN hr (pa_cons (pv 0) (pa_cons (pe_op op_sub (pv 1) pe_int) pa_nil)))))
      (pss_cons (ps_par (i := 7) (j := 8) rfl nd rfl rfl (by decide) rfl rfl (pa_cons (pe_cl DN GN hr (pa_cons (pv 0) (pa_cons (pv 4) pa_nil))) (pa_cons (pe_cl DO GO hr (pa_cons (pv 0) (pa_cons (pe_op op_cat (pv 2) (pe_lst (pa_cons pe_int (pa_cons (pe_op op_pow pe_int pe_int) pa_nil)))) pa_nil))) pa_nil)) rfl)
      (pss_cons (ps_set (i := 9) nd rfl (.inl rfl) (pe_op op_catW (pe_op op_catW (pe_slice sl_tupW (pe_ix ix_tup (pv 6) (pv 4) (fun _ _ => rfl)) po_none (po_some (pv 7))) (pe_tup (pa_cons (pv 8) pa_nil))) (pe_slice sl_tupW (pe_ix ix_tup (pv 6) (pv 4) (fun _ _ => rfl)) (po_some (pe_op op_add (pv 7) pe_int)) po_none)))
      (pss_one (ps_ret (pe_op op_catW (pe_op op_catW (pe_slice sl_tupW (pv 6) po_none (po_some (pv 4))) (pe_tup (pa_cons (pv 9) pa_nil))) (pe_slice sl_tupW (pv 6) (po_some (pe_op op_add (pv 4) pe_int)) po_none)))))))))))), ?_⟩
    -- grades, way
    refine ⟨.ref d, rfl, d, c, r, n, rfl, hD, by omega, fun H1 g gs hg0 hg1 hG D1 kp1 gd gc gr => ?_⟩
    refine ⟨.ref d, rfl, d, c, r, _, 5, rfl, D1, by omega, by decide, by decide, fun H2 way lw D2 kp2 => ?_⟩
    refine ⟨(by show 2 ≤ sizeLine; decide), fun p3 hp3 => ?_⟩
    refine ⟨p3, _, rfl, SqT.of upd_same, rfl, _, _, rfl, _, _, rfl, rfl, ?_⟩
    have hg2 : H2 g = some (.lst (gs.map V.int)) := kp2 g _ hg1 gd gr
    have hg3 : (upd H2 p3 (.tup [.ref g, .int (way : Int)])) g = some (.lst (gs.map V.int)) := Sm.new hp3 _ _ hg2
    have D3 := D2.new (o := .tup [.ref g, .int (way : Int)]) hp3
    have k3 : Kp d r H (upd H2 p3 (.tup [.ref g, .int (way : Int)])) := (kp1.trans kp2).trans (Kp.new hp3)
    generalize upd H2 p3 (.tup [.ref g, .int (way : Int)]) = H3 at D3 hg3 k3
    -- way 0
    refine ⟨.int (way : Int), rfl, rfl, _, rfl, ite2 (fun e => ?_) (fun e0 => ?_)⟩
    · refine ⟨.int (cnt : Int), rfl, _, rfl, by omega, by omega, fun D hDn => lc_range (n := (cnt : Int).toNat) (fun i Hx => ∃ xs t, Hx D = some (.lst xs) ∧ Rows K Hx xs t ∧ WT t ∧ t.length = i ∧ Dr Hx d c r (n + 10 + 20 * i) ∧ Kp d r H3 Hx) ⟨[], [], upd_same, Rows.nil, WT.nil, rfl, D3.new hDn, Kp.new hDn⟩ (fun i Hx hi hP => ?_) (fun Hx hP => ?_)⟩
      · obtain ⟨xs, t, h1, h2, h3, h4, h5, h6⟩ := hP
        have nD := D3.ne hDn
        refine ⟨rfl, .ref d, rfl, .int (0 + (i : Int)), rfl, .ref g, rfl, d, c, r, _, i, g, gs, by rw [Int.zero_add]; rfl, h5, by omega, by omega, SqL.of (h6 g _ hg3 gd gr), gd, gr, hG, fun H4 v ns hv hl hL D4 kp4 => ?_⟩
        have hD4 : H4 D = some (.lst xs) := kp4 D _ h1 nD.1 nD.2.2
        have hxl := h2.1
        refine ⟨xs, hD4, small1000 (by omega), xs ++ [v], t ++ [ns], upd_same, ((h2.kp h5 kp4).snoc hv).upd hD4, h3.snoc (by omega) hL, by rw [List.length_append, h4]; rfl, (D4.upd nD.1 nD.2.1 nD.2.2).mono (by omega), ?_⟩
        intro b o e n1 n2
        rw [upd_ne (ne_of_none e hDn)]
        exact kp4 b o (h6 b o e n1 n2) n1 n2
      · obtain ⟨xs, t, h1, h2, h3, h4, h5, h6⟩ := hP
        refine ⟨D, _, rfl, .inl ⟨SqL.of h1, fun p hp => ?_⟩⟩
        exact q _ _ t ⟨p, xs, rfl, SqT.of upd_same, h2.same (Sm.new hp)⟩ h3 (by omega) ((h5.new hp).mono (by omega)) (k3.trans (h6.trans (Kp.new hp)))
    -- way 1
    refine ⟨.int (way : Int), rfl, rfl, _, rfl, ite2 (fun e => ?_) (fun e1 => ?_)⟩
    · refine ⟨.ref d, rfl, _, _, rfl, rfl, ⟨by decide, by decide, by decide⟩, (by show 3 ≤ sizeLine; decide), fun p4 hp4 => ?_⟩
      have np4 := D3.ne hp4
      have D4 := D3.new (o := .lst [.int 3, .int 20, .int (10 ^ (12 : Int).toNat)]) hp4
      refine ⟨d, c, r, _, p4, _, rfl, D4, by omega, SqL.of upd_same, np4.1, np4.2.2, by decide, by decide, fun H5 i5 v5 hv5 D5 kp5 => ?_⟩
      obtain ⟨wd, rfl, w0, w1⟩ : ∃ wd : Int, v5 = .int wd ∧ 0 < wd ∧ wd ≤ 1000000000000 := by
        match i5, hv5 with
        | 0, h => exact ⟨3, (Option.some.inj h).symm, by decide, by decide⟩
        | 1, h => exact ⟨20, (Option.some.inj h).symm, by decide, by decide⟩
        | 2, h => exact ⟨10 ^ (12 : Int).toNat, (Option.some.inj h).symm, by decide, by decide⟩
        | k + 3, h => simp at h
      have k5 : Kp d r H H5 := k3.trans ((Kp.new hp4).trans kp5)
      refine ⟨.int (cnt : Int), rfl, _, rfl, by omega, by omega, fun D hDn => lc_range (n := (cnt : Int).toNat) (fun i Hx => ∃ xs t, Hx D = some (.lst xs) ∧ Rows K Hx xs t ∧ WT t ∧ t.length = i ∧ Dr Hx d c r (n + 11 + 20 * i) ∧ Kp d r H5 Hx) ⟨[], [], upd_same, Rows.nil, WT.nil, rfl, D5.new hDn, Kp.new hDn⟩ (fun i Hx hi hP => ?_) (fun Hx hP => ?_)⟩
      · obtain ⟨xs, t, h1, h2, h3, h4, h5, h6⟩ := hP
        have nD := D5.ne hDn
        refine ⟨rfl, .ref d, rfl, .int (0 + (i : Int)), rfl, .int wd, rfl, d, c, r, _, i, wd, by rw [Int.zero_add]; rfl, h5, by omega, by omega, w0, w1, fun H4 v ns hv hl hL D4 kp4 => ?_⟩
        have hD4 : H4 D = some (.lst xs) := kp4 D _ h1 nD.1 nD.2.2
        have hxl := h2.1
        refine ⟨xs, hD4, small1000 (by omega), xs ++ [v], t ++ [ns], upd_same, ((h2.kp h5 kp4).snoc hv).upd hD4, h3.snoc (by omega) hL, by rw [List.length_append, h4]; rfl, (D4.upd nD.1 nD.2.1 nD.2.2).mono (by omega), ?_⟩
        intro b o e n1 n2
        rw [upd_ne (ne_of_none e hDn)]
        exact kp4 b o (h6 b o e n1 n2) n1 n2
      · obtain ⟨xs, t, h1, h2, h3, h4, h5, h6⟩ := hP
        refine ⟨D, _, rfl, .inl ⟨SqL.of h1, fun p hp => ?_⟩⟩
        exact q _ _ t ⟨p, xs, rfl, SqT.of upd_same, h2.same (Sm.new hp)⟩ h3 (by omega) ((h5.new hp).mono (by omega)) (k5.trans (h6.trans (Kp.new hp)))
    -- a nested one
    refine ⟨.ref d, rfl, .int (cnt : Int), rfl, .ref g, rfl, d, c, r, _, cnt, g, gs, rfl, D3, by omega, c1, c2, SqL.of hg3, gd, gr, hG, fun H4 tv t hTT hWT htl D4 kp4 => ?_⟩
    have hg4 : H4 g = some (.lst (gs.map V.int)) := kp4 g _ hg3 gd gr
    have k4 : Kp d r H H4 := k3.trans kp4
    refine ⟨.int (way : Int), rfl, rfl, _, rfl, ?_⟩
    refine ite2 (fun e => iteT ⟨_, rfl, q H4 tv t hTT hWT htl (D4.mono (by omega)) k4⟩) (fun e2 => ?_)
    refine ⟨.int (cnt : Int), rfl, rfl, _, rfl, ite2 (fun e => ⟨_, rfl, q H4 tv t hTT hWT htl (D4.mono (by omega)) k4⟩) (fun e3 => ?_)⟩
    have hcnt : cnt ≠ 1 := fun z => e3 (decide_eq_true (by rw [z]; rfl))
    refine ⟨.int (way : Int), rfl, rfl, _, rfl, ite2 (fun e => ?_) (fun e4 => ?_)⟩
    · exact ⟨.ref d, rfl, _, rfl, .ref g, rfl, d, c, r, _, tv, t, g, gs, rfl, D4, by omega, hTT, hWT, by omega, hg4, gd, gr, hG, fun H5 v t' h1 h2 h3 D5 kp5 => q H5 v t' h1 h2 (by omega) (D5.mono (by omega)) (k4.trans kp5)⟩
    -- one level changed
    refine ⟨.ref d, rfl, .int (cnt : Int), rfl, _, _, rfl, rfl, d, c, r, _, _, rfl, D4, by omega, by omega, by omega, fun H5 k5 l5 D5 kp5 => ?_⟩
    refine ⟨_, _, rfl, rfl, ?_⟩
    dsimp only
    rw [show (1 : Int) + (k5 : Int) = ((1 + k5 : Nat) : Int) by omega]
    obtain ⟨o1, ho1⟩ : ∃ o1, o1 = 1 + k5 := ⟨_, rfl⟩
    rw [← ho1]
    have ho1l : o1 < cnt := by omega
    refine ⟨.ref d, rfl, .int (o1 : Int), rfl, d, c, r, _, _, rfl, D5, by omega, by omega, by omega, fun H6 k6 l6 D6 kp6 => ?_⟩
    have hg6 : H6 g = some (.lst (gs.map V.int)) := kp6 g _ (kp5 g _ hg4 gd gr) gd gr
    refine ⟨.ref d, rfl, .ref g, rfl, _, _, rfl, rfl, ⟨by decide, by decide, by decide⟩, (by show 2 ≤ sizeLine; decide), fun p7 hp7 => ?_⟩
    have hg7 : (upd H6 p7 (.lst [.int 1, .int (10 ^ (12 : Int).toNat)])) g = some (.lst (gs.map V.int)) := Sm.new hp7 _ _ hg6
    refine ⟨g, p7, _, _, rfl, rfl, hg7, upd_same, by rw [List.length_map]; have := hG.2.1; exact Nat.le_of_lt (small1000 (show gs.length + 2 ≤ 1000 by omega)), fun p8 hp8 => ?_⟩
    have D8 := (D6.new (o := .lst [.int 1, .int (10 ^ (12 : Int).toNat)]) hp7).new (o := .lst (gs.map V.int ++ [.int 1, .int (10 ^ (12 : Int).toNat)])) hp8
    have np8 := (D6.new (o := .lst [.int 1, .int (10 ^ (12 : Int).toNat)]) hp7).ne hp8
    refine ⟨d, c, r, _, p8, _, rfl, D8, by omega, SqL.of upd_same, np8.1, np8.2.2, by rw [List.length_append]; show 0 < _ + 2; omega, by rw [List.length_append, List.length_map]; have := hG.2.1; show _ + 2 ≤ 1000; omega, fun H9 i9 v9 hv9 D9 kp9 => ?_⟩
    obtain ⟨lv, hlv, rfl⟩ : ∃ lv : Int, LvOk lv ∧ v9 = .int lv := by
      refine gr_at (gs := gs ++ [1, 10 ^ (12 : Int).toNat]) (fun x hx => ?_) (by rw [List.map_append]; exact hv9)
      rcases List.mem_append.mp hx with hx | hx
      · exact hG.2.2 x hx
      · rcases List.mem_cons.mp hx with hx | hx
        · rw [hx]; exact ⟨by decide, by decide⟩
        · rw [List.mem_singleton.mp hx]; exact ⟨by decide, by decide⟩
    refine ⟨_, _, rfl, ?_⟩
    have kA : Kp d r H4 H9 := (kp5.trans kp6).trans (((Kp.new hp7).trans (Kp.new hp8)).trans kp9)
    have k9 : Kp d r H H9 := k4.trans kA
    obtain ⟨tp, rs, rfl, htp, hR⟩ := hTT.kp D4 kA
    have hrl := hR.1
    obtain ⟨rv, rp, hrv, rfl, hrp⟩ := hR.get (i := o1) (by omega)
    obtain ⟨l1, l2⟩ := hWT.row (i := o1) (by omega)
    have hk6 : k6 < o1 := by omega
    generalize hrow : t.getD o1 [] = row at hrp l1 l2
    -- row
    refine ⟨.ref tp, rfl, .int (o1 : Int), rfl, tp, rs, _, _, rfl, rfl, htp, atI_nat hrv, .int (k6 : Int), rfl, _, rfl, rp, _, rfl, hrp, fun pa Ha sa ha => ?_⟩
    refine ⟨.int lv, rfl, (by show 1 ≤ sizeLine; decide), fun pb hpb => ?_⟩
    have sb : Sm Ha (upd Ha pb (.tup [.int lv])) := Sm.new hpb
    refine ⟨pa, pb, _, _, rfl, rfl, sb.sqT ha, SqT.of upd_same, ?_, fun pc Hc sc hc => ?_⟩
    · have z := cutV_length (row.map V.int) none (some (k6 : Int))
      rw [List.length_map] at z
      exact Nat.le_of_lt (small1000 (show (cutV (row.map V.int) none (some (k6 : Int))).length + 1 ≤ 1000 by omega))
    have s1 := (sa.trans sb).trans sc
    refine ⟨.ref tp, rfl, .int (o1 : Int), rfl, tp, rs, _, _, rfl, rfl, s1.sqT htp, atI_nat hrv, .int (k6 : Int), rfl, _, _, rfl, rfl, _, rfl, rp, _, rfl, s1.sqT hrp, fun pd Hd sd hd => ?_⟩
    rw [show (k6 : Int) + 1 = ((k6 + 1 : Nat) : Int) by omega, cut_from] at hd
    rw [cut_to] at hc
    refine ⟨pc, pd, _, _, rfl, rfl, sd.sqT hc, hd, ?_, fun pe He se he => ?_⟩
    · rw [List.length_append, List.length_take, List.length_drop, List.length_map]
      exact Nat.le_of_lt (small1000 (show min k6 row.length + 1 + (row.length - (k6 + 1)) ≤ 1000 by omega))
    have s2 := (s1.trans sd).trans se
    rw [set_parts _ _ _ (by rw [List.length_map]; omega), ← List.map_set] at he
    -- the table
    refine ⟨.ref tp, rfl, .int (o1 : Int), rfl, _, rfl, tp, rs, rfl, s2.sqT htp, fun pf Hf sf hf => ?_⟩
    refine ⟨.ref pe, rfl, (by show 1 ≤ sizeLine; decide), fun pg hpg => ?_⟩
    have sg : Sm Hf (upd Hf pg (.tup [.ref pe])) := Sm.new hpg
    rw [cut_to] at hf
    refine ⟨pf, pg, _, _, rfl, rfl, sg.sqT hf, SqT.of upd_same, ?_, fun ph Hh sh hh => ?_⟩
    · rw [List.length_take]
      exact Nat.le_of_lt (small1000 (show min o1 rs.length + 1 ≤ 1000 by omega))
    have s3 := ((s2.trans sf).trans sg).trans sh
    refine ⟨.ref tp, rfl, .int (o1 : Int), rfl, _, _, rfl, rfl, _, rfl, tp, rs, rfl, s3.sqT htp, fun pi Hi si hi => ?_⟩
    rw [show (o1 : Int) + 1 = ((o1 + 1 : Nat) : Int) by omega, cut_from] at hi
    refine ⟨ph, pi, _, _, rfl, rfl, si.sqT hh, hi, ?_, fun pj Hj sj hj => ?_⟩
    · rw [List.length_append, List.length_take, List.length_drop]
      exact Nat.le_of_lt (small1000 (show min o1 rs.length + 1 + (rs.length - (o1 + 1)) ≤ 1000 by omega))
    rw [set_parts _ _ _ (by omega)] at hj
    have s4 := (s3.trans si).trans sj
    have s5 : Sm He Hj := ((((sf.trans sg).trans sh).trans si).trans sj)
    refine q Hj _ (t.set o1 (row.set k6 lv)) ⟨pj, rs.set o1 (.ref pe), rfl, hj, (hR.same s4).set ⟨pe, rfl, s5.sqT he⟩⟩ (hWT.set (by rw [List.length_set]; exact l1) (fun x hx => ?_)) (by rw [List.length_set]; exact htl) ((D9.same s4).mono (by omega)) (k9.trans s4.kp)
    rcases List.mem_or_eq_of_mem_set hx with hx | hx
    · exact l2 x hx
    · rw [hx]; exact hlv
end
section
variable {P : Program} {w : World} {K : PySem.W.Frag} {mg : Str → Option Value} {base : Heap}
/-! ### the program: levels, pairs, three items -/
def sp_lb (K : PySem.W.Frag) : Sp := fun vs H Q _ => ∃ (tv : V) (t : List (List Int)) (i j : Nat), vs = [tv, .int (i : Int), .int (j : Int)] ∧ TT K H tv t ∧ WT t ∧ i < t.length ∧ j < t.length ∧ Q (.int (lev t i j)) H
theorem ok_lb {f : Addr} {fd : FuncData} {k : Nat} (F : Fun K "level_between" "level_between" s_level_between f fd) (B : Bi mg) : FnOk P w K mg base CX0 (k + 1) f fd ["table", "one", "other"] (sp_lb K) := by
  refine F.ok sc_level_between (fun vs H Q E h => ?_) (fun cdv A outer s H vs Q E hr h => ?_)
  · obtain ⟨tv, t, i, j, rfl, _⟩ := h
    rfl
  · obtain ⟨tv, t, i, j, rfl, ⟨tp, rs, rfl, htp, hR⟩, hW, hi, hj, q⟩ := h
    refine ⟨_, pss_cons (ps_if (pt_cmpR op_eq (pv 1) (pv 2) (nomark _)) (pss_one (ps_ret pe_int)) pss_nil)
      (pss_one (ps_ret (pe_ix ix_tup (pe_ix ix_tup (pv 0) (pe_callB (call_max2 rfl) (by rfl) B.max (by decide +kernel) (pa_cons (pv 1) (pa_cons (pv 2) pa_nil))) (fun _ _ => rfl)) (pe_callB (call_min2 rfl) (by rfl) B.min (by decide +kernel) (pa_cons (pv 1) (pa_cons (pv 2) pa_nil))) (fun _ _ => rfl)))), ?_⟩
    refine ⟨.int (i : Int), rfl, .int (j : Int), rfl, rfl, _, rfl, ite2 (fun e => ?_) (fun e => ?_)⟩
    · have e1 : (i : Int) = (j : Int) := V.int.inj (of_decide_eq_true e)
      have e2 : i = j := by omega
      have e3 : lev t i j = 0 := by unfold lev; rw [if_pos e2]
      rw [e3] at q
      exact q
    · have e2 : i ≠ j := fun z => e (decide_eq_true (by rw [z]))
      have hm : max i j < t.length := by omega
      obtain ⟨v, p, hv, rfl, hp⟩ := hR.get hm
      obtain ⟨l1, l2⟩ := hW.row hm
      have hl : min i j < (t.getD (max i j) []).length := by omega
      have e3 : lev t i j = (t.getD (max i j) []).getD (min i j) 0 := by unfold lev; rw [if_neg e2]
      rw [e3] at q
      refine ⟨.ref tp, rfl, .int (i : Int), rfl, .int (j : Int), rfl, _, _, rfl, tp, rs, _, _, rfl, rfl, htp, by rw [max_nat]; exact atI_nat hv, .int (i : Int), rfl, .int (j : Int), rfl, _, _, rfl, p, _, _, _, rfl, rfl, hp, by rw [min_nat]; exact atI_nat (map_at (getD_at hl)), q⟩
def sp_pairs (K : PySem.W.Frag) : Sp := fun vs H Q _ => ∃ (tv : V) (t : List (List Int)), vs = [tv] ∧ TT K H tv t ∧ t.length ≤ 20 ∧ ∀ (H' : Hp) (p : Addr) (vs' : List V), Sm H H' → SqT K H' p vs' → Prs K H' vs' (ppre t.length t.length) → Q (.ref p) H'
theorem ok_pairs {f : Addr} {fd : FuncData} {k : Nat} (F : Fun K "pairs_of" "pairs_of" s_pairs_of f fd) (B : Bi mg) : FnOk P w K mg base CX0 (k + 1) f fd ["table"] (sp_pairs K) := by
  refine F.ok sc_pairs_of (fun vs H Q E h => ?_) (fun cdv A outer s H vs Q E hr h => ?_)
  · obtain ⟨tv, t, rfl, _⟩ := h
    rfl
  · obtain ⟨tv, t, rfl, ⟨tp, rs, rfl, htp, hR⟩, h20, q⟩ := h
    have nd := sc_pairs_of.nd
    refine ⟨_, pss_cons (ps_set (i := 1) nd rfl (.inr rfl) (pe_len B (pv 0)))
      (pss_one (ps_ret (pe_callTy call_tuple_of (by rfl) B.tuple (by decide +kernel) (pa_cons
        (pe_lc2 (own := [("one", 2), ("other", 3)]) (vs1 := [3]) (g := gName 2) (g1 := gName 3) (tt := tYes) (tt1 := tYes) rfl nd (pi_range1 rfl B.range (pa_cons (pv 1) pa_nil)) (blkOk_by (N := N_pairs_of) (sc := defScope s_pairs_of) (by decide +kernel)) (by decide)
          (fun _ _ _ _ _ => pg_name (i := 2) nd rfl (.inl rfl)) (fun _ _ _ _ _ => pts_nil)
          (fun _ _ _ _ _ => pi_range2 rfl B.range (pa_cons (pe_op op_add (pv 2) pe_int) (pa_cons (pv 1) pa_nil)))
          (fun _ _ _ _ _ => pg_name (i := 3) nd rfl (.inl rfl)) (fun _ _ _ _ _ => pts_nil)
          (fun _ _ _ _ _ => pe_tup (pa_cons (pv 2) (pa_cons (pv 3) pa_nil)))) pa_nil)))), ?_⟩
    have hrl := hR.1
    refine ⟨.ref tp, rfl, tp, rs, rfl, .inr htp, ?_⟩
    obtain ⟨n, hn⟩ : ∃ n, n = t.length := ⟨_, rfl⟩
    rw [← hn] at q
    refine ⟨.int (rs.length : Int), rfl, _, rfl, by omega, by omega, fun D hDn => ?_⟩
    have e0 : (rs.length : Int).toNat = n := by omega
    rw [e0]
    refine ⟨fun i m Hx => m = n - i ∧ i ≤ n ∧ ∃ acc, Hx D = some (.lst acc) ∧ Prs K Hx acc (ppre n i) ∧ Sm H Hx, ⟨n, by omega, by omega, [], upd_same, Prs.nil, Sm.new hDn⟩, ?_⟩
    rintro i m Hx ⟨rfl, hi, acc, h1, h2, h3⟩
    by_cases hlt : i < n
    · refine .inr ⟨hlt, fun Hy => ∃ acc, Hy D = some (.lst acc) ∧ Prs K Hy acc (ppre n (i + 1)) ∧ Sm H Hy, fun Hy hy => ⟨n - (i + 1), by omega, rfl, by omega, hy⟩, fun x Hy hy => ?_⟩
      obtain ⟨rfl, rfl⟩ := hy
      refine ⟨rfl, ?_⟩
      refine ⟨.int (0 + (i : Int)), rfl, _, _, rfl, rfl, .int (rs.length : Int), rfl, _, _, rfl, ⟨by omega, by omega, by omega, by omega⟩, ?_⟩
      have e1 : ((rs.length : Int) - (0 + (i : Int) + 1)).toNat = n - (i + 1) := by omega
      rw [e1]
      refine ⟨fun j k Hz => k = n - (i + 1) - j ∧ j ≤ n - (i + 1) ∧ ∃ acc, Hz D = some (.lst acc) ∧ Prs K Hz acc (ppre n i ++ (prow n i).take j) ∧ Sm H Hz, ⟨n - (i + 1), by omega, by omega, acc, h1, by rw [List.take_zero, List.append_nil]; exact h2, h3⟩, ?_⟩
      rintro j k Hz ⟨rfl, hj, acc2, g1, g2, g3⟩
      by_cases hjl : j < n - (i + 1)
      · refine .inr ⟨hjl, fun Hy => ∃ acc, Hy D = some (.lst acc) ∧ Prs K Hy acc (ppre n i ++ (prow n i).take (j + 1)) ∧ Sm H Hy, fun Hy hy => ⟨n - (i + 1) - (j + 1), by omega, rfl, by omega, hy⟩, fun x Hy hy => ?_⟩
        obtain ⟨rfl, rfl⟩ := hy
        refine ⟨rfl, .int (0 + (i : Int)), rfl, .int (0 + (i : Int) + 1 + (j : Int)), rfl, (by show 2 ≤ sizeLine; decide), fun p hp => ?_⟩
        have g1' := Sm.new (o := .tup [.int (0 + (i : Int)), .int (0 + (i : Int) + 1 + (j : Int))]) hp _ _ g1
        have hln : acc2.length < sizeLine := by
          have z1 := ppre_len_le n i
          have z2 : i * n ≤ 20 * 20 := Nat.mul_le_mul (by omega) (by omega)
          have z3 := g2.1
          rw [List.length_append, List.length_take, prow_len] at z3
          exact small1000 (by omega)
        refine ⟨acc2, g1', hln, _, upd_same, ?_, ?_⟩
        · rw [prow_take n i j hjl, ← List.append_assoc]
          refine ((g2.same (Sm.new hp)).append (Prs.one ?_)).upd g1'
          have e2 : (.tup [.int (0 + (i : Int)), .int (0 + (i : Int) + 1 + (j : Int))] : HO) = .tup [.int (i : Int), .int ((i + 1 + j : Nat) : Int)] := by
            rw [Int.zero_add, show (i : Int) + 1 + (j : Int) = ((i + 1 + j : Nat) : Int) by omega]
          rw [e2]
          exact SqT.of upd_same
        · intro b o e
          rw [upd_ne (ne_of_none e hDn)]
          exact Sm.new hp _ _ (g3 b o e)
      · have ej : j = n - (i + 1) := by omega
        subst ej
        refine .inl ⟨Nat.le_refl _, acc2, g1, ?_, g3⟩
        rw [ppre_succ]
        rw [List.take_of_length_le (by rw [prow_len]; exact Nat.le_refl _)] at g2
        exact g2
    · have ei : i = n := by omega
      subst ei
      refine .inl ⟨Nat.le_refl _, D, _, rfl, .inl ⟨SqL.of h1, fun p hp => ?_⟩⟩
      exact q _ p acc (h3.trans (Sm.new hp)) (SqT.of upd_same) (h2.same (Sm.new hp))
def sp_even (K : PySem.W.Frag) : Sp := fun vs H Q _ => ∃ (tv : V) (t : List (List Int)) (i j k : Nat), vs = [tv, .int (i : Int), .int (j : Int), .int (k : Int)] ∧ TT K H tv t ∧ WT t ∧ i < t.length ∧ j < t.length ∧ k < t.length ∧
  ∀ (H' : Hp) (b : Bool), Sm H H' → (b = true ↔ Ev t i j k) → Q (.bl b) H'
theorem ok_even {f fL : Addr} {fd fdL : FuncData} (F : Fun K "is_even" "is_even" s_is_even f fd) (DL : Df K mg "level_between" s_level_between fL fdL ["table", "one", "other"]) (B : Bi mg) : FnOk P w K mg base CX0 2 f fd ["table", "one", "other", "third"] (sp_even K) := by
  have GL : FnOk P w K mg base CX0 1 fL fdL ["table", "one", "other"] (sp_lb K) := ok_lb DL.F B
  refine F.ok sc_is_even (fun vs H Q E h => ?_) (fun cdv A outer s H vs Q E hr h => ?_)
  · obtain ⟨tv, t, i, j, k, rfl, _⟩ := h
    rfl
  · obtain ⟨tv, t, i, j, k, rfl, hTT, hW, hi, hj, hk, q⟩ := h
    have nd := sc_is_even.nd
    refine ⟨_, pss_cons (ps_set (i := 4) nd rfl (.inl rfl) (pe_callB cr_sorted (by rfl) B.sorted (by decide +kernel) (pa_cons (pe_lst (pa_cons (pe_cl DL GL hr (pa_cons (pv 0) (pa_cons (pv 1) (pa_cons (pv 2) pa_nil))))
        (pa_cons (pe_cl DL GL hr (pa_cons (pv 0) (pa_cons (pv 1) (pa_cons (pv 3) pa_nil)))) (pa_cons (pe_cl DL GL hr (pa_cons (pv 0) (pa_cons (pv 2) (pa_cons (pv 3) pa_nil)))) pa_nil)))) pa_nil)))
      (pss_one (ps_ret (pe_cmpR op_eq (pe_ix ix_list (pv 4) pe_int (fun _ _ => rfl)) (pe_ix ix_list (pv 4) pe_int (fun _ _ => rfl)) (nomark _)))), ?_⟩
    refine ⟨tv, rfl, .int (i : Int), rfl, .int (j : Int), rfl, tv, t, i, j, rfl, hTT, hW, hi, hj, ?_⟩
    refine ⟨tv, rfl, .int (i : Int), rfl, .int (k : Int), rfl, tv, t, i, k, rfl, hTT, hW, hi, hk, ?_⟩
    refine ⟨tv, rfl, .int (j : Int), rfl, .int (k : Int), rfl, tv, t, j, k, rfl, hTT, hW, hj, hk, ?_⟩
    refine ⟨(by show 3 ≤ sizeLine; decide), fun p hp => ⟨p, [lev t i j, lev t i k, lev t j k], rfl, SqL.of upd_same, (by show 3 < 64; decide), fun ns' p2 hperm hsort hp2 => ?_⟩⟩
    obtain ⟨x, y, z, rfl, hyz⟩ := sorted3 hperm hsort
    refine ⟨.ref p2, rfl, p2, _, _, _, rfl, rfl, SqL.of upd_same, atI_nat (j := 1) rfl, .ref p2, rfl, p2, _, _, _, rfl, rfl, SqL.of upd_same, atI_nat (j := 2) rfl, rfl, ?_⟩
    refine q _ _ ((Sm.new hp).trans (Sm.new hp2)) ?_
    rw [decide_eq_true_iff]
    constructor
    · intro e
      exact hyz.mp (V.int.inj e)
    · intro e
      rw [hyz.mpr e]
def sp_uneven (K : PySem.W.Frag) : Sp := fun vs H Q _ => ∃ (tv : V) (t : List (List Int)), vs = [tv] ∧ TT K H tv t ∧ WT t ∧ t.length ≤ 20 ∧ (∀ H', Sm H H' → AllEven t → Q .non H') ∧
  ∀ (H' : Hp) (p : Addr) (i j k : Nat), Sm H H' → FirstUneven t i j k → SqT K H' p [.int (i : Int), .int (j : Int), .int (k : Int)] → Q (.ref p) H'
structure EvenDefs (K : PySem.W.Frag) (mg : Str → Option Value) : Prop where
  B : Bi mg
  lb : ∃ f fd, Df K mg "level_between" s_level_between f fd ["table", "one", "other"]
  pairs : ∃ f fd, Df K mg "pairs_of" s_pairs_of f fd ["table"]
  even : ∃ f fd, Df K mg "is_even" s_is_even f fd ["table", "one", "other", "third"]
theorem ok_uneven {f : Addr} {fd : FuncData} (F : Fun K "uneven_items" "uneven_items" s_uneven_items f fd) (T : EvenDefs K mg) : FnOk P w K mg base CX0 3 f fd ["table"] (sp_uneven K) := by
  have B := T.B
  obtain ⟨fL, fdL, DL⟩ := T.lb
  obtain ⟨fP, fdP, DP⟩ := T.pairs
  obtain ⟨fE, fdE, DE⟩ := T.even
  have GP : FnOk P w K mg base CX0 2 fP fdP ["table"] (sp_pairs K) := ok_pairs DP.F B
  have GE : FnOk P w K mg base CX0 2 fE fdE ["table", "one", "other", "third"] (sp_even K) := ok_even DE.F DL B
  refine F.ok sc_uneven_items (fun vs H Q E h => ?_) (fun cdv A outer s H vs Q E hr h => ?_)
  · obtain ⟨tv, t, rfl, _⟩ := h
    rfl
  · obtain ⟨tv, t, rfl, hTT, hW, h20, q0, q1⟩ := h
    have nd := sc_uneven_items.nd
    refine ⟨_, pss_cons (ps_for PassesOwn.never rfl (pi_tup (pe_cl DP GP hr (pa_cons (pv 0) pa_nil))) (pg_tup rfl (pgs_cons (pg_name (i := 1) nd rfl (.inl rfl)) (pgs_cons (pg_name (i := 2) nd rfl (.inl rfl)) pgs_nil)))
        (pss_one (ps_for PassesOwn.never rfl (pi_range2 rfl B.range (pa_cons (pe_op op_add (pv 2) pe_int) (pa_cons (pe_len B (pv 0)) pa_nil))) (pg_name (i := 3) nd rfl (.inl rfl))
          (pss_one (ps_if (pt_not (pt_val (pe_cl DE GE hr (pa_cons (pv 0) (pa_cons (pv 1) (pa_cons (pv 2) (pa_cons (pv 3) pa_nil))))))) (pss_one (ps_ret (pe_tup (pa_cons (pv 1) (pa_cons (pv 2) (pa_cons (pv 3) pa_nil)))))) pss_nil)))))
      (pss_one (ps_ret pe_non)), ?_⟩
    obtain ⟨n, hn⟩ : ∃ n, n = t.length := ⟨_, rfl⟩
    refine ⟨tv, rfl, tv, t, rfl, hTT, h20, fun H1 p1 vs1 s1 hp1 hP1 => ?_⟩
    rw [← hn] at hP1
    refine ⟨p1, rfl, ⟨_, hp1⟩, for_tup (xs := vs1) (fun m σ Hx => ∃ x1 x2 x3, σ = [some tv, x1, x2, x3] ∧ Sm H1 Hx ∧ ∀ q, q < m → ∀ a' b', (ppre n n)[q]? = some (a', b') → ∀ k', b' < k' → k' < n → Ev t a' b' k')
      ⟨none, none, none, rfl, Sm.refl _, fun q hq => absurd hq (Nat.not_lt_zero _)⟩ (fun m σ Hx _ hI => ?_) (fun m v σ Hx hv hI => ?_) (fun σ Hx hI => ?_)⟩
    · obtain ⟨_, _, _, _, s2, _⟩ := hI
      exact s2.sqT hp1
    · obtain ⟨x1, x2, x3, rfl, s2, seen⟩ := hI
      have hm : m < (ppre n n).length := by rw [← hP1.1]; exact (List.getElem?_eq_some_iff.mp hv).1
      obtain ⟨⟨a, b⟩, hab⟩ : ∃ p, (ppre n n)[m]? = some p := ⟨_, List.getElem?_eq_getElem hm⟩
      obtain ⟨pp, rfl, hpp⟩ := hP1.2 m v _ hv hab
      have hmem := mem_ppre.mp (List.mem_of_getElem? hab)
      refine ⟨pp, _, rfl, s2.sqT hpp, rfl, _, _, rfl, _, _, rfl, rfl, ?_⟩
      have hTx := hTT.same (s1.trans s2)
      obtain ⟨tp, rs, rfl, htp, hR⟩ := id hTx
      have hrl := hR.1
      refine ⟨.int (b : Int), rfl, _, _, rfl, rfl, .ref tp, rfl, tp, rs, rfl, .inr htp, _, _, rfl, ⟨by omega, by omega, by omega, by omega⟩, ?_⟩
      have e1 : ((rs.length : Int) - ((b : Int) + 1)).toNat = n - (b + 1) := by omega
      rw [e1]
      refine for_range (n := n - (b + 1)) (lo := (b : Int) + 1) (fun c σ Hy => ∃ x3, σ = [some (.ref tp), some (.int (a : Int)), some (.int (b : Int)), x3] ∧ Sm H1 Hy ∧ ∀ k', b < k' → k' < b + 1 + c → Ev t a b k') ⟨x3, rfl, s2, fun k' h1 h2 => by omega⟩ (fun c σ Hy hc hI => ?_) (fun σ Hy hI => ?_)
      · obtain ⟨x3, rfl, s3, seen2⟩ := hI
        have e2 : (b : Int) + 1 + (c : Int) = ((b + 1 + c : Nat) : Int) := by omega
        show _
        refine ⟨_, rfl, .int (a : Int), rfl, .int (b : Int), rfl, .int ((b : Int) + 1 + (c : Int)), rfl, .ref tp, t, a, b, b + 1 + c, by rw [e2]; rfl, hTT.same (s1.trans s3), hW, by omega, by omega, by omega, fun Hz bb sz hb => ?_⟩
        refine ⟨_, rfl, ?_⟩
        cases bb with
        | false =>
          refine iteT ⟨.int (a : Int), rfl, .int (b : Int), rfl, .int ((b : Int) + 1 + (c : Int)), rfl, (by show 3 ≤ sizeLine; decide), fun p hp => ?_⟩
          refine q1 _ p a b (b + 1 + c) (((s1.trans s3).trans sz).trans (Sm.new hp)) (first_of hn hab seen (fun k' h1 h2 => seen2 k' h1 h2) ⟨by omega, by omega⟩ (fun z => Bool.noConfusion (hb.mpr z))) ?_
          rw [e2]
          exact SqT.of upd_same
        | true =>
          refine iteF ⟨_, rfl, s3.trans sz, fun k' h1 h2 => ?_⟩
          by_cases e3 : k' = b + 1 + c
          · rw [e3]
            exact hb.mp rfl
          · exact seen2 k' h1 (by omega)
      · obtain ⟨x3, rfl, s3, seen2⟩ := hI
        refine ⟨_, _, _, rfl, s3, fun q hq a' b' hq' k' h1 h2 => ?_⟩
        by_cases e3 : q = m
        · subst e3
          rw [hab] at hq'
          cases Option.some.inj hq'
          exact seen2 k' h1 (by omega)
        · exact seen q (by omega) a' b' hq' k' h1 h2
    · obtain ⟨x1, x2, x3, rfl, s2, seen⟩ := hI
      rw [hP1.1] at seen
      exact q0 _ (s1.trans s2) (all_of hn seen)
end
/-! ### ascending lists -/
section
variable {P : Program} {w : World} {K : PySem.W.Frag} {mg : Str → Option Value} {base : Heap}
def sp_isn (K : PySem.W.Frag) : Sp := fun vs H Q _ => ∃ (tv : V) (t : List (List Int)), vs = [tv] ∧ TT K H tv t ∧ WT t ∧ t.length ≤ 20 ∧ ∀ (H' : Hp) (b : Bool), Sm H H' → (b = true ↔ AllEven t) → Q (.bl b) H'
theorem ok_isn {f fU : Addr} {fd fdU : FuncData} (F : Fun K "is_nested" "is_nested" s_is_nested f fd) (DU : Df K mg "uneven_items" s_uneven_items fU fdU ["table"]) (T : EvenDefs K mg) : FnOk P w K mg base CX0 4 f fd ["table"] (sp_isn K) := by
  have GU : FnOk P w K mg base CX0 3 fU fdU ["table"] (sp_uneven K) := ok_uneven DU.F T
  refine F.ok sc_is_nested (fun vs H Q E h => ?_) (fun cdv A outer s H vs Q E hr h => ?_)
  · obtain ⟨tv, t, rfl, _⟩ := h
    rfl
  · obtain ⟨tv, t, rfl, hT, hW, h20, q⟩ := h
    refine ⟨_, pss_one (ps_ret (pe_cmpR op_isN (pe_cl DU GU hr (pa_cons (pv 0) pa_nil)) pe_non (nomark _))), ?_⟩
    refine ⟨tv, rfl, tv, t, rfl, hT, hW, h20, fun H' sH hA => ⟨rfl, q H' _ sH ?_⟩, fun H' p i j k sH hF hp => ⟨rfl, q H' _ sH ?_⟩⟩
    · rw [decide_eq_true rfl]
      exact ⟨fun _ => hA, fun _ => rfl⟩
    · rw [decide_eq_false (fun e => by cases e)]
      exact ⟨fun e => Bool.noConfusion e, fun e => (first_not_all hF e).elim⟩
end
/-! ### the program: squares of levels -/
def lcScope : Expr → Scope
  | .ListComp _ _ sc _ => sc
  | _ => default
def stE : Stmt → Expr
  | .Return (some e) _ => e
  | .Assign _ e _ => e
  | .Expr e _ => e
  | _ => .Name "" ⟨0, 0, 0, 0⟩
def forB : Stmt → List Stmt
  | .For _ _ b _ _ => b
  | .If _ b _ _ => b
  | _ => []
def stAt (b : List Stmt) (i : Nat) : Stmt := b.getD i (.Pass ⟨0, 0, 0, 0⟩)
section
variable {P : Program} {w : World} {K : PySem.W.Frag} {mg : Str → Option Value} {base : Heap}
def sp_lgrid (K : PySem.W.Frag) : Sp := fun vs H Q _ => ∃ (tv : V) (t : List (List Int)), vs = [tv] ∧ TT K H tv t ∧ WT t ∧ t.length ≤ 20 ∧
  ∀ (H' : Hp) (o : Addr) (ps : List Addr), Sm H H' → H o = none → (∀ p ∈ ps, H p = none) → H' o = some (.lst (ps.map V.ref)) → Rws H' ps (sqr (lev t) t.length) → Q (.ref o) H'
theorem ok_lgrid {f fL : Addr} {fd fdL : FuncData} (F : Fun K "level_grid" "level_grid" s_level_grid f fd) (DL : Df K mg "level_between" s_level_between fL fdL ["table", "one", "other"]) (B : Bi mg) : FnOk P w K mg base CX0 2 f fd ["table"] (sp_lgrid K) := by
  have GL : FnOk P w K mg base CX0 1 fL fdL ["table", "one", "other"] (sp_lb K) := ok_lb DL.F B
  refine F.ok sc_level_grid (fun vs H Q E h => ?_) (fun cdv A outer s H vs Q E hr h => ?_)
  · obtain ⟨tv, t, rfl, _⟩ := h
    rfl
  · obtain ⟨tv, t, rfl, hT, hW, h20, q⟩ := h
    have nd := sc_level_grid.nd
    refine ⟨_, pss_cons (ps_set (i := 1) nd rfl (.inr rfl) (pe_len B (pv 0)))
      (pss_one (ps_ret (pe_lc (own := [("one", 2)]) (g := gName 2) (tt := tYes) rfl nd (pi_range1 rfl B.range (pa_cons (pv 1) pa_nil)) (blkOk_by (N := N_level_grid) (sc := defScope s_level_grid) (by decide +kernel))
        (fun _ _ _ _ _ => pg_name (i := 2) nd rfl (.inr rfl)) (fun _ _ _ _ _ => pts_nil)
        (fun _ _ _ _ _ => pe_lc (own := [("other", 3)]) (g := gName 3) (tt := tYes) rfl nd (pi_range1 rfl B.range (pa_cons (pv 1) pa_nil)) (blkOk_by (N := N_level_grid) (sc := relS (lcScope (stE (stAt (defBody s_level_grid) 1))) (defScope s_level_grid)) (by decide +kernel))
          (fun _ _ _ _ _ => pg_name (i := 3) nd rfl (.inl rfl)) (fun _ _ _ _ _ => pts_nil)
          (fun _ _ _ _ _ => pe_cl DL GL hr (pa_cons (pv 0) (pa_cons (pv 2) (pa_cons (pv 3) pa_nil)))))))), ?_⟩
    obtain ⟨tp, rs, rfl, htp, hR⟩ := id hT
    have hrl := hR.1
    obtain ⟨n, hn⟩ : ∃ n, n = t.length := ⟨_, rfl⟩
    refine ⟨.ref tp, rfl, tp, rs, rfl, .inr htp, ?_⟩
    have en : (rs.length : Int).toNat = n := by omega
    refine ⟨.int (rs.length : Int), rfl, _, rfl, by omega, by omega, fun D hDn => lc_range (n := (rs.length : Int).toNat) (fun i Hx => ∃ ps : List Addr, Hx D = some (.lst (ps.map V.ref)) ∧ Rws Hx ps ((sqr (lev t) n).take i) ∧ (∀ p ∈ ps, H p = none) ∧ Sm H Hx) ⟨[], upd_same, by rw [List.take_zero]; exact Rws.nil, fun p hp => by simp at hp, Sm.new hDn⟩ (fun i Hx hi hP => ?_) (fun Hx hP => ?_)⟩
    · obtain ⟨ps, h1, h2, h3, h4⟩ := hP
      have hin : i < n := by omega
      refine ⟨rfl, .int (rs.length : Int), rfl, _, rfl, by omega, by omega, fun D2 hD2 => lc_range (n := (rs.length : Int).toNat) (fun j Hy => Hy D2 = some (.lst (((List.range j).map (lev t i)).map V.int)) ∧ Sm Hx Hy) ⟨upd_same, Sm.new hD2⟩ (fun j Hy hj hP => ?_) (fun Hy hP => ?_)⟩
      · obtain ⟨g1, g2⟩ := hP
        refine ⟨rfl, .ref tp, rfl, .int (0 + (i : Int)), rfl, .int (0 + (j : Int)), rfl, .ref tp, t, i, j, by rw [Int.zero_add, Int.zero_add]; rfl, hT.same (h4.trans g2), hW, by omega, by omega, _, g1, ?_, ?_, ?_⟩
        · rw [List.length_map, List.length_map, List.length_range]
          exact small1000 (by omega)
        · rw [upd_same, range_map_succ, List.map_append]
          rfl
        · intro b u e
          rw [upd_ne (ne_of_none e hD2)]
          exact g2 b u e
      · obtain ⟨g1, g2⟩ := hP
        rw [en] at g1
        have hl := h2.1
        rw [List.length_take, sqr_len] at hl
        have h1y := g2 _ _ h1
        have R1 := (h2.same g2).snoc (h2.not_mem hD2) g1
        have DD : D ∉ ps ++ [D2] := by
          intro hm
          rcases List.mem_append.mp hm with hm | hm
          · exact h2.outer h1 hm
          · rw [List.mem_singleton.mp hm] at h1
            rw [hD2] at h1
            cases h1
        refine ⟨_, h1y, ?_, ps ++ [D2], ?_, ?_, ?_, ?_⟩
        · rw [List.length_map]
          exact small1000 (by omega)
        · rw [upd_same, List.map_append]
          rfl
        · rw [sqr_take _ hin]
          exact R1.upd DD
        · intro p hp
          rcases List.mem_append.mp hp with hp | hp
          · exact h3 p hp
          · rw [List.mem_singleton.mp hp]
            exact h4.free hD2
        · intro b u e
          rw [upd_ne (ne_of_none e hDn)]
          exact g2 _ _ (h4 b u e)
    · obtain ⟨ps, h1, h2, h3, h4⟩ := hP
      rw [List.take_of_length_le (by rw [sqr_len]; omega)] at h2
      exact q Hx D ps h4 hDn h3 h1 (hn ▸ h2)
end
section
variable {P : Program} {w : World} {K : PySem.W.Frag} {mg : Str → Option Value} {base : Heap}
/-! ### the program: lowest heights -/
abbrev rMn : List V → Hp → VK → Prop := fun xs H Q => ∃ i j, xs = [.int i, .int j] ∧ Q (.int (if j < i then j else i)) H
abbrev rMx : List V → Hp → VK → Prop := fun xs H Q => ∃ i j, xs = [.int i, .int j] ∧ Q (.int (if j > i then j else i)) H
theorem mnmx (a b c : Int) : (if (if c > b then c else b) < a then (if c > b then c else b) else a) = min a (max b c) := by
  split <;> split at * <;> omega
def sp_low (K : PySem.W.Frag) : Sp := fun vs H Q _ => ∃ (o : Addr) (ps : List Addr) (f : Nat → Nat → Int) (n : Nat), vs = [.ref o] ∧ H o = some (.lst (ps.map V.ref)) ∧ Rws H ps (sqr f n) ∧ n ≤ 20 ∧
  ∀ (H' : Hp) (o' : Addr) (ps' : List Addr), Sm H H' → H' o' = some (.lst (ps'.map V.ref)) → Rws H' ps' (sqr (fw f n) n) → Q (.ref o') H'
theorem ok_low {f : Addr} {fd : FuncData} {k : Nat} (F : Fun K "lowest_grid" "lowest_grid" s_lowest_grid f fd) (B : Bi mg) : FnOk P w K mg base CX0 (k + 1) f fd ["grid"] (sp_low K) := by
  refine F.ok sc_lowest_grid (fun vs H Q E h => ?_) (fun cdv A outer s H vs Q E hr h => ?_)
  · obtain ⟨o, ps, g, n, rfl, _⟩ := h
    rfl
  · obtain ⟨o, ps, g, n, rfl, ho, hR, h20, q⟩ := h
    have nd := sc_lowest_grid.nd
    refine ⟨_, pss_cons (ps_set (i := 1) nd rfl (.inl rfl) (pv 0))
      (pss_cons (ps_for PassesOwn.never rfl (pi_range1 rfl B.range (pa_cons (pe_len B (pv 0)) pa_nil)) (pg_name (i := 2) nd rfl (.inr rfl))
        (pss_cons (ps_set (i := 3) nd rfl (.inr rfl) (pe_ix ix_list (pv 1) (pv 2) (fun _ _ => rfl)))
        (pss_one (ps_setLc (i := 1) (own := [("row", 4)]) (g := gName 4) (tt := tYes) rfl nd rfl rfl (sw_true rfl rfl rfl (by decide +kernel)) (pi_list (pv 1)) (blkOk_by (N := N_lowest_grid) (sc := defScope s_lowest_grid) (by decide +kernel))
          (fun _ _ _ _ _ => pg_name (i := 4) nd rfl (.inr rfl)) (fun _ _ _ _ _ => pts_nil)
          (te := tLc (iZip K (tCons (tVar 4) (tCons (tVar 3) tNil))) (gTup K 2 (gCons (gName 5) (gCons (gName 6) gNil))) tYes (tCB rMn (tCons (tVar 5) (tCons (tCB rMx (tCons (tOp (rIxL K) (tVar 4) (tVar 2)) (tCons (tVar 6) tNil))) tNil))) [5, 6])
          (fun _ _ _ _ _ => pe_lc (own := [("direct", 5), ("step", 6)]) (g := gTup K 2 (gCons (gName 5) (gCons (gName 6) gNil))) (tt := tYes) rfl nd (pi_zip (by rfl) B.zip (pa_cons (pv 4) (pa_cons (pv 3) pa_nil))) (blkOk_by (N := N_lowest_grid) (sc := relS (lcScope (stE (stAt (forB (stAt (defBody s_lowest_grid) 1)) 1))) (defScope s_lowest_grid)) (by decide +kernel))
            (fun _ _ _ _ _ => pg_tup rfl (pgs_cons (pg_name (i := 5) nd rfl (.inl rfl)) (pgs_cons (pg_name (i := 6) nd rfl (.inl rfl)) pgs_nil))) (fun _ _ _ _ _ => pts_nil)
            (fun _ _ _ _ _ => pe_callB (call_min2 rfl) (by rfl) B.min (by decide +kernel) (pa_cons (pv 5) (pa_cons (pe_callB (call_max2 rfl) (by rfl) B.max (by decide +kernel) (pa_cons (pe_ix ix_list (pv 4) (pv 2) (fun _ _ => rfl)) (pa_cons (pv 6) pa_nil))) pa_nil))))))))
      (pss_one (ps_ret (pv 1)))), ?_⟩
    have hl := hR.1
    rw [sqr_len] at hl
    refine ⟨.ref o, rfl, .ref o, rfl, o, _, rfl, .inl (SqL.of ho), _, rfl, by omega, by rw [List.length_map]; omega, ?_⟩
    have en : ((ps.map V.ref).length : Int).toNat = n := by rw [List.length_map]; omega
    rw [en]
    refine for_range (n := n) (fun m σ Hx => ∃ x2 x3 lo qs, σ = [some (.ref o), some (.ref lo), x2, x3, none, none, none] ∧ Hx lo = some (.lst (qs.map V.ref)) ∧ Rws Hx qs (sqr (fw g m) n) ∧ Sm H Hx) ⟨none, none, o, ps, rfl, ho, hR, Sm.refl _⟩ (fun m σ Hx hm hI => ?_) (fun σ Hx hI => ?_)
    · obtain ⟨x2, x3, lo, qs, rfl, hlo, hQ, sx⟩ := hI
      have hql := hQ.1
      rw [sqr_len] at hql
      obtain ⟨mp, hmp, hmr⟩ := hQ.get (i := m) (by rw [sqr_len]; exact hm)
      rw [sqr_row _ hm] at hmr
      show _
      refine ⟨.ref lo, rfl, .int (0 + (m : Int)), rfl, lo, _, _, _, rfl, rfl, SqL.of hlo, by rw [Int.zero_add]; exact atI_nat (refs_at hmp), ?_⟩
      refine ⟨.ref lo, rfl, lo, rfl, ⟨_, SqL.of hlo⟩, fun D hDn => lc_list (xs := qs.map V.ref) (fun i Hy => ∃ rs : List Addr, Hy D = some (.lst (rs.map V.ref)) ∧ Rws Hy rs ((sqr (fw g (m + 1)) n).take i) ∧ Sm Hx Hy) ⟨[], upd_same, by rw [List.take_zero]; exact Rws.nil, Sm.new hDn⟩ (fun i Hy _ hP => ?_) (fun i v Hy hv hP => ?_) (fun Hy hP => ?_)⟩
      · obtain ⟨_, _, _, sy⟩ := hP
        exact SqL.of (sy _ _ hlo)
      · obtain ⟨rs, h1, h2, sy⟩ := hP
        have hi : i < n := by
          have := (List.getElem?_eq_some_iff.mp hv).1
          rw [List.length_map] at this
          omega
        obtain ⟨ip, hip, hir⟩ := hQ.get (i := i) (by rw [sqr_len]; exact hi)
        rw [sqr_row _ hi] at hir
        obtain rfl : v = .ref ip := Option.some.inj (hv.symm.trans (refs_at hip))
        have hiy := sy _ _ hir
        have hmy := sy _ _ hmr
        refine ⟨rfl, .ref ip, rfl, .ref mp, rfl, ip, mp, _, _, rfl, SqL.of hiy, SqL.of hmy, fun D2 hD2 => lc_zipL (n := n) (xs := ((List.range n).map (fw g m i)).map V.int) (ys := ((List.range n).map (fw g m m)).map V.int) (by simp) (fun j Hz => Hz D2 = some (.lst (((List.range j).map (fw g (m + 1) i)).map V.int)) ∧ Sm Hy Hz) ⟨upd_same, Sm.new hD2⟩ (fun j Hz _ hP => ?_) (fun j x y T Hz hx hy hP hT => ?_) (fun Hz hP => ?_)⟩
        · exact ⟨SqL.of (hP.2 _ _ hiy), SqL.of (hP.2 _ _ hmy)⟩
        · obtain ⟨g1, g2⟩ := hP
          have hj : j < n := by
            have := (List.getElem?_eq_some_iff.mp hx).1
            simpa using this
          obtain rfl : x = .int (fw g m i j) := Option.some.inj (hx.symm.trans (range_at _ hj))
          obtain rfl : y = .int (fw g m m j) := Option.some.inj (hy.symm.trans (range_at _ hj))
          have sT : Sm Hz (upd Hz T (.tup [.int (fw g m i j), .int (fw g m m j)])) := Sm.new hT
          refine ⟨T, _, rfl, SqT.of upd_same, rfl, _, _, rfl, _, _, rfl, rfl, rfl, ?_⟩
          refine ⟨.int (fw g m i j), rfl, .ref ip, rfl, .int (0 + (m : Int)), rfl, ip, _, _, _, rfl, rfl, SqL.of (sT _ _ (g2 _ _ hiy)), by rw [Int.zero_add]; exact atI_nat (range_at _ hm), .int (fw g m m j), rfl, _, _, rfl, _, _, rfl, _, sT _ _ g1, ?_, ?_, ?_⟩
          · rw [List.length_map, List.length_map, List.length_range]
            exact small1000 (by omega)
          · rw [upd_same, range_map_succ, List.map_append, mnmx]
            rfl
          · intro b u e
            rw [upd_ne (ne_of_none e hD2)]
            exact sT _ _ (g2 b u e)
        · obtain ⟨g1, g2⟩ := hP
          have hl2 := h2.1
          rw [List.length_take, sqr_len] at hl2
          have R1 := (h2.same g2).snoc (h2.not_mem hD2) g1
          have DD : D ∉ rs ++ [D2] := by
            intro hm
            rcases List.mem_append.mp hm with hm | hm
            · exact h2.outer h1 hm
            · rw [List.mem_singleton.mp hm] at h1
              rw [hD2] at h1
              cases h1
          refine ⟨_, g2 _ _ h1, ?_, rs ++ [D2], ?_, ?_, ?_⟩
          · rw [List.length_map]
            exact small1000 (by omega)
          · rw [upd_same, List.map_append]
            rfl
          · rw [sqr_take _ hi]
            exact R1.upd DD
          · intro b u e
            rw [upd_ne (ne_of_none e hDn)]
            exact g2 _ _ (sy b u e)
      · obtain ⟨rs, h1, h2, sy⟩ := hP
        rw [List.take_of_length_le (by rw [sqr_len, List.length_map]; omega)] at h2
        exact ⟨_, _, D, rs, rfl, h1, h2, sx.trans sy⟩
    · obtain ⟨x2, x3, lo, qs, rfl, hlo, hQ, sx⟩ := hI
      exact ⟨_, rfl, q Hx lo qs sx hlo hQ⟩
end
section
variable {P : Program} {w : World} {K : PySem.W.Frag} {mg : Str → Option Value} {base : Heap}
/-! ### the program: joining levels -/
structure GridDefs (K : PySem.W.Frag) (mg : Str → Option Value) : Prop where
  B : Bi mg
  lb : ∃ f fd, Df K mg "level_between" s_level_between f fd ["table", "one", "other"]
  lgrid : ∃ f fd, Df K mg "level_grid" s_level_grid f fd ["table"]
  low : ∃ f fd, Df K mg "lowest_grid" s_lowest_grid f fd ["grid"]
  jgrid : ∃ f fd, Df K mg "join_grid" s_join_grid f fd ["table"]
def sp_jgrid (K : PySem.W.Frag) : Sp := fun vs H Q _ => ∃ (tv : V) (t : List (List Int)), vs = [tv] ∧ TT K H tv t ∧ WT t ∧ t.length ≤ 20 ∧
  ∀ (H' : Hp) (o : Addr) (ps : List Addr), Sm H H' → H' o = some (.lst (ps.map V.ref)) → Rws H' ps (sqr (jn t) t.length) → Q (.ref o) H'
theorem ok_jgrid {f : Addr} {fd : FuncData} (F : Fun K "join_grid" "join_grid" s_join_grid f fd) (T : GridDefs K mg) : FnOk P w K mg base CX0 3 f fd ["table"] (sp_jgrid K) := by
  have B := T.B
  obtain ⟨fL, fdL, DL⟩ := T.lb
  obtain ⟨fG, fdG, DG⟩ := T.lgrid
  obtain ⟨fW, fdW, DW⟩ := T.low
  have GG : FnOk P w K mg base CX0 2 fG fdG ["table"] (sp_lgrid K) := ok_lgrid DG.F DL B
  have GW : FnOk P w K mg base CX0 2 fW fdW ["grid"] (sp_low K) := ok_low DW.F B
  refine F.ok sc_join_grid (fun vs H Q E h => ?_) (fun cdv A outer s H vs Q E hr h => ?_)
  · obtain ⟨tv, t, rfl, _⟩ := h
    rfl
  · obtain ⟨tv, t, rfl, hT, hW, h20, q⟩ := h
    refine ⟨_, pss_one (ps_ret (pe_cl DW GW hr (pa_cons (pe_cl DG GG hr (pa_cons (pv 0) pa_nil)) pa_nil))), ?_⟩
    exact ⟨tv, rfl, tv, t, rfl, hT, hW, h20, fun H1 o1 ps1 s1 _ _ ho1 hR1 => ⟨o1, ps1, lev t, t.length, rfl, ho1, hR1, h20, fun H2 o2 ps2 s2 ho2 hR2 => q H2 o2 ps2 (s1.trans s2) ho2 hR2⟩⟩
end
/-! ### tuple() -/
abbrev rTup (K : PySem.W.Frag) : List V → Hp → VK → Prop := fun xs H Q => ∃ p ys, xs = [.ref p] ∧ ((SqL K H p ys ∧ ∀ l, H l = none → Q (.ref l) (upd H l (.tup ys))) ∨ (SqT K H p ys ∧ Q (.ref p) H))
section
variable {P : Program} {w : World} {K : PySem.W.Frag} {mg : Str → Option Value} {base : Heap}
/-! ### the program: the nested table below -/
def sp_below (K : PySem.W.Frag) : Sp := fun vs H Q _ => ∃ (tv : V) (t : List (List Int)), vs = [tv] ∧ TT K H tv t ∧ WT t ∧ t.length ≤ 20 ∧ ∀ (H' : Hp) (v : V), Sm H H' → TT K H' v (jtab t) → Q v H'
theorem take_range (f : Nat → Int) {i n : Nat} (h : i ≤ n) : (((List.range n).map f).map V.int).take i = ((List.range i).map f).map V.int := by
  rw [← List.map_take, ← List.map_take, List.take_range, Nat.min_eq_left h]
theorem ok_below {f : Addr} {fd : FuncData} (F : Fun K "nested_below" "nested_below" s_nested_below f fd) (T : GridDefs K mg) : FnOk P w K mg base CX0 4 f fd ["table"] (sp_below K) := by
  have B := T.B
  obtain ⟨fJ, fdJ, DJ⟩ := T.jgrid
  have GJ : FnOk P w K mg base CX0 3 fJ fdJ ["table"] (sp_jgrid K) := ok_jgrid DJ.F T
  refine F.ok sc_nested_below (fun vs H Q E h => ?_) (fun cdv A outer s H vs Q E hr h => ?_)
  · obtain ⟨tv, t, rfl, _⟩ := h
    rfl
  · obtain ⟨tv, t, rfl, hT, hW, h20, q⟩ := h
    have nd := sc_nested_below.nd
    refine ⟨_, pss_one (ps_ret (pe_callTy call_tuple_of (by rfl) B.tuple (by decide +kernel) (pa_cons
      (pe_lc (own := [("at", 1), ("row", 2)]) (g := gTup K 2 (gCons (gName 1) (gCons (gName 2) gNil))) (tt := tYes) rfl nd (pi_enum (by rfl) B.enumerate (pa_cons (pe_cl DJ GJ hr (pa_cons (pv 0) pa_nil)) pa_nil)) (blkOk_by (N := N_nested_below) (sc := defScope s_nested_below) (by decide +kernel))
        (fun _ _ _ _ _ => pg_tup rfl (pgs_cons (pg_name (i := 1) nd rfl (.inl rfl)) (pgs_cons (pg_name (i := 2) nd rfl (.inl rfl)) pgs_nil))) (fun _ _ _ _ _ => pts_nil)
        (te := tCB (rTup K) (tCons (tSl (rSlL K) (tVar 2) tNoPart (tPart (tVar 1))) tNil))
        (fun _ _ _ _ _ => pe_callTy call_tuple_of (by rfl) B.tuple (by decide +kernel) (pa_cons (pe_slice sl_list (pv 2) po_none (po_some (pv 1))) pa_nil))) pa_nil))), ?_⟩
    refine ⟨tv, rfl, tv, t, rfl, hT, hW, h20, fun H1 o ps s1 ho hR => ?_⟩
    obtain ⟨n, hn⟩ : ∃ n, n = t.length := ⟨_, rfl⟩
    rw [← hn] at hR
    have hpl := hR.1
    rw [sqr_len] at hpl
    refine ⟨o, _, rfl, SqL.of ho, fun D hDn => lc_enumL (xs := ps.map V.ref) (fun i Hx => ∃ xs, Hx D = some (.lst xs) ∧ Rows K Hx xs ((tri (jn t) n).take i) ∧ Sm H1 Hx) ⟨[], upd_same, by rw [List.take_zero]; exact Rows.nil, Sm.new hDn⟩ (fun i Hx _ hP => ?_) (fun i x Tq Hx hx hP hTq => ?_) (fun Hx hP => ?_)⟩
    · obtain ⟨_, _, _, sx⟩ := hP
      exact SqL.of (sx _ _ ho)
    · obtain ⟨xs, k1, k2, sx⟩ := hP
      have hi : i < n := by
        have := (List.getElem?_eq_some_iff.mp hx).1
        rw [List.length_map] at this
        omega
      obtain ⟨p, hp, hpr⟩ := hR.get (i := i) (by rw [sqr_len]; exact hi)
      rw [sqr_row _ hi] at hpr
      obtain rfl : x = .ref p := Option.some.inj (hx.symm.trans (refs_at hp))
      have sT : Sm Hx (upd Hx Tq (.tup [.int (i : Int), .ref p])) := Sm.new hTq
      refine ⟨Tq, _, rfl, SqT.of upd_same, rfl, _, _, rfl, _, _, rfl, rfl, rfl, ?_⟩
      refine ⟨.ref p, rfl, .int (i : Int), rfl, _, rfl, p, _, rfl, SqL.of (sT _ _ (sx _ _ hpr)), fun sl hsl => ?_⟩
      rw [cut_to, take_range _ (Nat.le_of_lt hi)]
      have sS := sT.trans (Sm.new (o := .lst (((List.range i).map (jn t i)).map V.int)) hsl)
      refine ⟨sl, _, rfl, .inl ⟨SqL.of upd_same, fun l hl => ?_⟩⟩
      have sl' := sS.trans (Sm.new (o := .tup (((List.range i).map (jn t i)).map V.int)) hl)
      have hxl := k2.1
      rw [List.length_take] at hxl
      refine ⟨_, sl' _ _ k1, small1000 (by omega), _, upd_same, ?_, ?_⟩
      · have e : (tri (jn t) n).take (i + 1) = (tri (jn t) n).take i ++ [(List.range i).map (jn t i)] := by
          rw [List.take_add_one, tri_get _ hi]
          rfl
        rw [e]
        exact ((k2.same sl').snoc ⟨l, rfl, SqT.of upd_same⟩).upd (sl' _ _ k1)
      · intro b u e
        rw [upd_ne (ne_of_none e hDn)]
        exact sl' _ _ (sx b u e)
    · obtain ⟨xs, k1, k2, sx⟩ := hP
      rw [List.take_of_length_le (by rw [tri_len, List.length_map]; omega), hn] at k2
      refine ⟨D, _, rfl, .inl ⟨SqL.of k1, fun l hl => ?_⟩⟩
      exact q _ _ ((s1.trans sx).trans (Sm.new hl)) ⟨l, xs, rfl, SqT.of upd_same, k2.same (Sm.new hl)⟩
end
section
variable {P : Program} {w : World} {K : PySem.W.Frag} {mg : Str → Option Value} {base : Heap}
/-! ### pairs, by the law -/
def sp_Lpairs (K : PySem.W.Frag) : Sp := fun vs H Q _ => ∃ (n : Nat), vs = [.int (n : Int)] ∧ n ≤ 20 ∧ ∀ (H' : Hp) (p : Addr) (vs' : List V), Sm H H' → H p = none → H' p = some (.lst vs') → Prs K H' vs' (ppre n n) → Q (.ref p) H'
theorem ok_Lpairs {f : Addr} {fd : FuncData} {k : Nat} (F : Fun K "_law_pairs" "_law_pairs" s_L_pairs f fd) (B : Bi mg) : FnOk P w K mg base CX0 (k + 1) f fd ["_law_count_here"] (sp_Lpairs K) := by
  refine F.ok sc_L_pairs (fun vs H Q E h => ?_) (fun cdv A outer s H vs Q E hr h => ?_)
  · obtain ⟨n, rfl, _⟩ := h
    rfl
  · obtain ⟨n, rfl, h20, q⟩ := h
    have nd := sc_L_pairs.nd
    refine ⟨_, pss_cons (ps_set (i := 1) nd rfl (.inl rfl) (pe_lst pa_nil))
      (pss_cons (ps_for PassesOwn.never rfl (pi_range1 rfl B.range (pa_cons (pv 0) pa_nil)) (pg_name (i := 2) nd rfl (.inr rfl))
        (pss_one (ps_expr (pe_bm PySem.F.plainAttrs_list PySem.F.slot_list_extend PySem.F.type_list_extend mt_extend (pv 1) (pa_cons
          (pe_lc (own := [("_law_other", 3)]) (g := gName 3) (tt := tYes) rfl nd (pi_range2 rfl B.range (pa_cons (pe_op op_add (pv 2) pe_int) (pa_cons (pv 0) pa_nil))) (blkOk_by (N := N_L_pairs) (sc := defScope s_L_pairs) (by decide +kernel))
            (fun _ _ _ _ _ => pg_name (i := 3) nd rfl (.inl rfl)) (fun _ _ _ _ _ => pts_nil) (fun _ _ _ _ _ => pe_tup (pa_cons (pv 2) (pa_cons (pv 3) pa_nil)))) pa_nil)))))
      (pss_one (ps_ret (pv 1)))), ?_⟩
    refine ⟨Nat.zero_le _, fun o ho => ?_⟩
    refine ⟨.int (n : Int), rfl, _, rfl, by omega, by omega, for_range (n := (n : Int).toNat) (fun i σ Hx => ∃ x2 acc, σ = [some (.int (n : Int)), some (.ref o), x2, none] ∧ Hx o = some (.lst acc) ∧ Prs K Hx acc (ppre n i) ∧ Sm H Hx)
      ⟨none, [], rfl, upd_same, Prs.nil, Sm.new ho⟩ (fun i σ Hx hi hI => ?_) (fun σ Hx hI => ?_)⟩
    · obtain ⟨x2, acc, rfl, h1, h2, h3⟩ := hI
      show _
      refine ⟨.ref o, rfl, .inl ⟨rfl, _, SqL.of h1⟩, .int (0 + (i : Int)), rfl, _, _, rfl, rfl, .int (n : Int), rfl, _, _, rfl, ⟨by omega, by omega, by omega, by omega⟩, fun D hDn => ?_⟩
      have e1 : ((n : Int) - (0 + (i : Int) + 1)).toNat = n - (i + 1) := by omega
      rw [e1]
      refine lc_range (n := n - (i + 1)) (lo := 0 + (i : Int) + 1) (fun j Hy => ∃ ac2, Hy D = some (.lst ac2) ∧ Prs K Hy ac2 ((prow n i).take j) ∧ Sm Hx Hy) ⟨[], upd_same, Prs.nil, Sm.new hDn⟩ (fun j Hy hj hP => ?_) (fun Hy hP => ?_)
      · obtain ⟨ac2, g1, g2, g3⟩ := hP
        refine ⟨rfl, .int (0 + (i : Int)), rfl, .int (0 + (i : Int) + 1 + (j : Int)), rfl, (by show 2 ≤ sizeLine; decide), fun p hp => ?_⟩
        have g1' := Sm.new (o := .tup [.int (0 + (i : Int)), .int (0 + (i : Int) + 1 + (j : Int))]) hp _ _ g1
        have hln : ac2.length < sizeLine := by
          have z3 := g2.1
          rw [List.length_take, prow_len] at z3
          exact small1000 (by omega)
        refine ⟨ac2, g1', hln, _, upd_same, ?_, ?_⟩
        · rw [prow_take n i j hj]
          refine ((g2.same (Sm.new hp)).append (Prs.one ?_)).upd g1'
          have e2 : (.tup [.int (0 + (i : Int)), .int (0 + (i : Int) + 1 + (j : Int))] : HO) = .tup [.int (i : Int), .int ((i + 1 + j : Nat) : Int)] := by
            rw [Int.zero_add, show (i : Int) + 1 + (j : Int) = ((i + 1 + j : Nat) : Int) by omega]
          rw [e2]
          exact SqT.of upd_same
        · intro b u e
          rw [upd_ne (ne_of_none e hDn)]
          exact Sm.new hp _ _ (g3 b u e)
      · obtain ⟨ac2, g1, g2, g3⟩ := hP
        rw [List.take_of_length_le (by rw [prow_len]; exact Nat.le_refl _)] at g2
        have h1' := g3 _ _ h1
        have z1 := ppre_len_le n i
        have z2 : i * n ≤ 20 * 20 := Nat.mul_le_mul (by omega) (by omega)
        have z3 := h2.1
        have z4 := g2.1
        rw [prow_len] at z4
        refine ⟨o, D, acc, ac2, rfl, rfl, h1', g1, Nat.le_of_lt (small1000 (by omega)), _, _, rfl, upd_same, ?_, ?_⟩
        · rw [ppre_succ]
          exact ((h2.same g3).append g2).upd h1'
        · intro b u e
          rw [upd_ne (ne_of_none e ho)]
          exact g3 _ _ (h3 b u e)
    · obtain ⟨x2, acc, rfl, h1, h2, h3⟩ := hI
      have e1 : (n : Int).toNat = n := by omega
      rw [e1] at h2
      exact ⟨_, rfl, q Hx o acc h3 ho h1 h2⟩
end
section
variable {P : Program} {w : World} {K : PySem.W.Frag} {mg : Str → Option Value} {base : Heap}
/-! ### values of any kind that are equal -/
def rEqSame (K : PySem.W.Frag) : R2 := fun x y H Q => ∃ a xs, x = .ref a ∧ y = .ref a ∧ SqL K H a xs ∧ Q (.bl true) H
theorem op_eqSame {X : Cx} (hu : X.A.units + 64 < cLine) : OpR X (compareOp .Eq) (rEqSame X.K) := by
  intro pins s σ H x y v u Q I r1 r2 h
  obtain ⟨a, xs, rfl, rfl, h1, q⟩ := h
  cases r1
  cases r2
  obtain ⟨its, ri, pi, _⟩ := I.list h1
  have e : ((List.range its.toArray.size).all fun _ => true) = true := by simp
  have z := SeqAt.RcAt.lists (A := X.A) (s := s) (e := fun _ => true) (plain_isl pi) (plain_isl pi) rfl (by omega) (fun j _ _ => SeqAt.EqAt.same _)
  rw [e] at z
  exact z X.prog X.w _ _ ⟨.bl true, H, I, rfl, q⟩
def rEqY (K : PySem.W.Frag) : R2 := fun x y H Q => rEq x y H Q ∨ rEqSame K x y H Q ∨ rEqDA x y H Q
theorem op_eqY {X : Cx} {k : Nat} (hr : Room k X.A) : OpR X (compareOp .Eq) (rEqY X.K) := by
  intro pins s σ H x y v u Q I r1 r2 h
  rcases h with h | h | h
  · exact op_eq pins s σ H x y v u Q I r1 r2 h
  · exact op_eqSame hr.units pins s σ H x y v u Q I r1 r2 h
  · exact op_eq_dictA hr.units0 pins s σ H x y v u Q I r1 r2 h
theorem ty_lstY {H : Hp} {a : Addr} {xs : List V} (h : SqL K H a xs) : TyX K H (.ref a) (.type "list") := by
  rcases h with (h | ⟨o, h⟩) | ⟨o, its, n, h1, h2, _⟩
  · exact .base (.lst h)
  · exact .base (.frz h)
  · exact .kList h1 h2
/-- what is not split: its type, and that it is equal to itself -/
inductive Lf (K : PySem.W.Frag) (H : Hp) : V → Prop where
  | int (i : Int) : Lf K H (.int i)
  | non : Lf K H .non
  | str (x : Str) : Lf K H (.str x)
  | lst {a : Addr} {xs : List V} (h : SqL K H a xs) : Lf K H (.ref a)
  | dct {a : Addr} (h : H a = some (.dK [])) : Lf K H (.ref a)
theorem Lf.same {H H' : Hp} {v : V} (h : Lf K H v) (e : Sm H H') : Lf K H' v := by
  cases h with
  | int i => exact .int i
  | non => exact .non
  | str x => exact .str x
  | lst h => exact .lst (e.sqL h)
  | dct h => exact .dct (e _ _ h)
theorem Lf.key {H : Hp} {v : V} (h : Lf K H v) : ∃ (ty : String) (bi bs : Bool), TyX K H v (.type ty) ∧ kitB ty "tuple" = some false ∧ kitB ty "bool" = some false ∧ kitB ty "int" = some bi ∧ kitB ty "str" = some bs ∧ ∀ Q : VK, Q (.bl true) H → rEqY K v v H Q := by
  cases h with
  | int i => exact ⟨"int", true, false, .base (.int i), by decide +kernel, by decide +kernel, by decide +kernel, by decide +kernel, fun Q q => .inl ⟨rfl, by rw [decide_eq_true rfl]; exact q⟩⟩
  | non => exact ⟨"NoneType", false, false, .base .non, by decide +kernel, by decide +kernel, by decide +kernel, by decide +kernel, fun Q q => .inl ⟨rfl, by rw [decide_eq_true rfl]; exact q⟩⟩
  | str x => exact ⟨"str", false, true, .base (.str x), by decide +kernel, by decide +kernel, by decide +kernel, by decide +kernel, fun Q q => .inl ⟨rfl, by rw [decide_eq_true rfl]; exact q⟩⟩
  | @lst a xs h => exact ⟨"list", false, false, ty_lstY h, by decide +kernel, by decide +kernel, by decide +kernel, by decide +kernel, fun Q q => .inr (.inl ⟨a, xs, rfl, rfl, h, q⟩)⟩
  | @dct a h => exact ⟨"dict", false, false, .base (.dK h), by decide +kernel, by decide +kernel, by decide +kernel, by decide +kernel, fun Q q => .inr (.inr ⟨a, a, [], [], rfl, rfl, h, h, rfl, fun p hp => by simp at hp, q⟩)⟩
/-- two values that are equal, part by part -/
def EqY (K : PySem.W.Frag) (H : Hp) : Nat → V → V → Prop
  | 0, x, y => x = y ∧ (Lf K H x ∨ ∃ b, x = .bl b)
  | n + 1, x, y => (x = y ∧ (Lf K H x ∨ ∃ b, x = .bl b)) ∨ ∃ a b xs ys, x = .ref a ∧ y = .ref b ∧ SqT K H a xs ∧ SqT K H b ys ∧ xs.length = ys.length ∧ xs.length ≤ 1000000 ∧ ∀ (i : Nat) u z, xs[i]? = some u → ys[i]? = some z → EqY K H n u z
theorem EqY.leaf {H : Hp} {n : Nat} {x : V} (h : Lf K H x ∨ ∃ b, x = .bl b) : EqY K H n x x := by
  cases n with
  | zero => exact ⟨rfl, h⟩
  | succ n => exact .inl ⟨rfl, h⟩
theorem EqY.tup {H : Hp} {n : Nat} {a b : Addr} {xs ys : List V} (h1 : SqT K H a xs) (h2 : SqT K H b ys) (hl : xs.length = ys.length) (hm : xs.length ≤ 1000000) (h : ∀ (i : Nat) u z, xs[i]? = some u → ys[i]? = some z → EqY K H n u z) : EqY K H (n + 1) (.ref a) (.ref b) := .inr ⟨a, b, xs, ys, rfl, rfl, h1, h2, hl, hm, h⟩
theorem EqY.same {H H' : Hp} (e : Sm H H') : ∀ {n : Nat} {x y : V}, EqY K H n x y → EqY K H' n x y
  | 0, _, _, ⟨a, b⟩ => ⟨a, b.imp (fun l => l.same e) id⟩
  | n + 1, _, _, .inl ⟨a, b⟩ => .inl ⟨a, b.imp (fun l => l.same e) id⟩
  | n + 1, _, _, .inr ⟨a, b, xs, ys, h1, h2, h3, h4, h5, h6, h7⟩ => .inr ⟨a, b, xs, ys, h1, h2, e.sqT h3, e.sqT h4, h5, h6, fun i u z p q => EqY.same e (h7 i u z p q)⟩
def sp_equalY (K : PySem.W.Frag) : Nat → Sp
  | 0 => fun _ _ _ _ => False
  | n + 1 => fun vs H Q _ => ∃ (x y : V), vs = [x, y] ∧ EqY K H n x y ∧ ∀ H', Sm H H' → Q (.bl true) H'
theorem isi_no {a b : String} {r : Bool} (h : kitB a b = some r) : PySem.W.kitOne K (.type a) (.type b) = some r := kit_ty h
theorem ok_equalY {f : Addr} {fd : FuncData} (D : Df K mg "_law_equal" s_L_equal f fd ["_law_one_here", "_law_other"]) (B : Bi mg) : ∀ n, FnOk P w K mg base CX0 (n + 1) f fd ["_law_one_here", "_law_other"] (sp_equalY K n)
  | 0 => ⟨fun _ _ _ _ h => h.elim, fun _ _ _ _ _ _ _ _ _ _ _ _ _ h => h.elim⟩
  | n + 1 => by
    have G := ok_equalY D B n
    refine D.F.ok sc_L_equal (fun vs H Q E h => ?_) (fun cdv A outer s H vs Q E hr h => ?_)
    · obtain ⟨x, y, rfl, _⟩ := h
      rfl
    · obtain ⟨x, y, rfl, hxy, q⟩ := h
      have nd := sc_L_equal.nd
      refine ⟨_, pss_cons (ps_if (PW.pt (pw_and (pt_val (pe_callB call_isi (by rfl) B.isinstance (by decide +kernel) (pa_cons (pv 0) (pa_cons (pe_bltn (by rfl) B.tuple (by decide +kernel) (v := .ty "tuple") rfl) pa_nil))))
            (pw_and1 (pt_val (pe_callB call_isi (by rfl) B.isinstance (by decide +kernel) (pa_cons (pv 1) (pa_cons (pe_bltn (by rfl) B.tuple (by decide +kernel) (v := .ty "tuple") rfl) pa_nil)))))))
          (pss_one (ps_ret (pe_and (pe_cmpR op_eq (pe_len B (pv 0)) (pe_len B (pv 1)) (nomark _)) (pe_one (pe_callB (cr_all rfl) (by rfl) B.all (by decide +kernel) (pa_cons
            (pe_lc (own := [("_law_a", 2), ("_law_b", 3)]) (g := gTup K 2 (gCons (gName 2) (gCons (gName 3) gNil))) (tt := tYes) rfl nd (RZ.pi_zipA (by rfl) B.zip (pa_cons (pv 0) (pa_cons (pv 1) pa_nil))) (blkOk_by (N := N_L_equal) (sc := defScope s_L_equal) (by decide +kernel))
              (fun _ _ _ _ _ => pg_tup rfl (pgs_cons (pg_name (i := 2) nd rfl (.inl rfl)) (pgs_cons (pg_name (i := 3) nd rfl (.inl rfl)) pgs_nil))) (fun _ _ _ _ _ => pts_nil)
              (fun _ _ _ _ _ => pe_cl D G hr (pa_cons (pv 2) (pa_cons (pv 3) pa_nil)))) pa_nil)))))) pss_nil)
        (pss_cons (ps_if (PW.pt (pw_or (pt_val (pe_callB call_isi (by rfl) B.isinstance (by decide +kernel) (pa_cons (pv 0) (pa_cons (pe_bltn (by rfl) B.bool (by decide +kernel) (v := .ty "bool") rfl) pa_nil))))
            (pw_or1 (pt_val (pe_callB call_isi (by rfl) B.isinstance (by decide +kernel) (pa_cons (pv 1) (pa_cons (pe_bltn (by rfl) B.bool (by decide +kernel) (v := .ty "bool") rfl) pa_nil)))))))
          (pss_one (ps_ret (pe_and (pe_callB call_isi (by rfl) B.isinstance (by decide +kernel) (pa_cons (pv 0) (pa_cons (pe_bltn (by rfl) B.bool (by decide +kernel) (v := .ty "bool") rfl) pa_nil)))
            (pe_and (pe_callB call_isi (by rfl) B.isinstance (by decide +kernel) (pa_cons (pv 1) (pa_cons (pe_bltn (by rfl) B.bool (by decide +kernel) (v := .ty "bool") rfl) pa_nil))) (pe_one (pe_cmpR op_eq (pv 0) (pv 1) (nomark _))))))) pss_nil)
        (pss_cons (ps_if (pt_cmpR op_ne (pe_callB call_isi (by rfl) B.isinstance (by decide +kernel) (pa_cons (pv 0) (pa_cons (pe_bltn (by rfl) B.tuple (by decide +kernel) (v := .ty "tuple") rfl) pa_nil))) (pe_callB call_isi (by rfl) B.isinstance (by decide +kernel) (pa_cons (pv 1) (pa_cons (pe_bltn (by rfl) B.tuple (by decide +kernel) (v := .ty "tuple") rfl) pa_nil))) (nomark _))
          (pss_one (ps_ret pe_bl)) pss_nil)
        (pss_cons (ps_if (pt_cmpR op_ne (pe_callB call_isi (by rfl) B.isinstance (by decide +kernel) (pa_cons (pv 0) (pa_cons (pe_bltn (by rfl) B.int (by decide +kernel) (v := .ty "int") rfl) pa_nil))) (pe_callB call_isi (by rfl) B.isinstance (by decide +kernel) (pa_cons (pv 1) (pa_cons (pe_bltn (by rfl) B.int (by decide +kernel) (v := .ty "int") rfl) pa_nil))) (nomark _))
          (pss_one (ps_ret pe_bl)) pss_nil)
        (pss_one (ps_ret (pe_and (pe_cmpR op_eq (pe_callB call_isi (by rfl) B.isinstance (by decide +kernel) (pa_cons (pv 0) (pa_cons (pe_bltn (by rfl) B.str (by decide +kernel) (v := .ty "str") rfl) pa_nil))) (pe_callB call_isi (by rfl) B.isinstance (by decide +kernel) (pa_cons (pv 1) (pa_cons (pe_bltn (by rfl) B.str (by decide +kernel) (v := .ty "str") rfl) pa_nil))) (nomark _))
          (pe_one (pe_cmpR (op_eqY hr) (pv 0) (pv 1) (nomark _))))))))), ?_⟩
      have cut : (x = y ∧ (Lf K H x ∨ ∃ b, x = .bl b)) ∨ ∃ m ax ay xs ys, n = m + 1 ∧ x = .ref ax ∧ y = .ref ay ∧ SqT K H ax xs ∧ SqT K H ay ys ∧ xs.length = ys.length ∧ xs.length ≤ 1000000 ∧ ∀ (i : Nat) u z, xs[i]? = some u → ys[i]? = some z → EqY K H m u z := by
        cases n with
        | zero => exact .inl hxy
        | succ m =>
          rcases hxy with hxy | ⟨ax, ay, xs, ys, h1, h2, h3, h4, h5, h6, h7⟩
          · exact .inl hxy
          · exact .inr ⟨m, ax, ay, xs, ys, rfl, h1, h2, h3, h4, h5, h6, h7⟩
      clear hxy
      rcases cut with ⟨rfl, hl | ⟨b, rfl⟩⟩ | ⟨m, ax, ay, xs, ys, rfl, rfl, rfl, hs, hs2, hly, hl, hd⟩
      · obtain ⟨tn, bi, bs, tx, k1, k2, k3, k4, heq⟩ := hl.key
        refine ⟨x, rfl, x, .ty "tuple", _, _, false, rfl, .ty _, tx, isi_no k1, false, rfl, ?_⟩
        refine ⟨x, rfl, x, .ty "bool", _, _, false, rfl, .ty _, tx, isi_no k2, false, rfl, ⟨x, rfl, x, .ty "bool", _, _, false, rfl, .ty _, tx, isi_no k2, false, rfl, ?_⟩⟩
        refine ⟨x, rfl, x, .ty "tuple", _, _, false, rfl, .ty _, tx, isi_no k1, x, rfl, x, .ty "tuple", _, _, false, rfl, .ty _, tx, isi_no k1, rfl, _, rfl, ?_⟩
        refine ⟨x, rfl, x, .ty "int", _, _, bi, rfl, .ty _, tx, isi_no k3, x, rfl, x, .ty "int", _, _, bi, rfl, .ty _, tx, isi_no k3, rfl, _, rfl, iteNS rfl ?_⟩
        refine ⟨x, rfl, x, .ty "str", _, _, bs, rfl, .ty _, tx, isi_no k4, x, rfl, x, .ty "str", _, _, bs, rfl, .ty _, tx, isi_no k4, rfl, true, by rw [decide_eq_true rfl], ?_⟩
        exact ⟨x, rfl, x, rfl, heq _ (q _ (Sm.refl _))⟩
      · have tx : TyX K H (.bl b) (.type "bool") := .base (.bl b)
        refine ⟨_, rfl, .bl b, .ty "tuple", _, _, false, rfl, .ty _, tx, isi_no (show kitB "bool" "tuple" = some false by decide +kernel), false, rfl, ⟨_, rfl, .bl b, .ty "bool", _, _, true, rfl, .ty _, tx, isi_no (show kitB "bool" "bool" = some true by decide +kernel), true, rfl, ?_⟩⟩
        exact ⟨_, rfl, .bl b, .ty "bool", _, _, true, rfl, .ty _, tx, isi_no (show kitB "bool" "bool" = some true by decide +kernel), true, rfl, ⟨_, rfl, .bl b, .ty "bool", _, _, true, rfl, .ty _, tx, isi_no (show kitB "bool" "bool" = some true by decide +kernel), true, rfl, ⟨_, rfl, _, rfl, rfl, by rw [decide_eq_true rfl]; exact q _ (Sm.refl _)⟩⟩⟩
      · refine ⟨_, rfl, .ref ax, .ty "tuple", _, _, true, rfl, .ty _, ty_tup hs, isi_no (show kitB "tuple" "tuple" = some true by decide +kernel), true, rfl, ⟨_, rfl, .ref ay, .ty "tuple", _, _, true, rfl, .ty _, ty_tup hs2, isi_no (show kitB "tuple" "tuple" = some true by decide +kernel), true, rfl, ?_⟩⟩
        refine ⟨_, rfl, ax, xs, rfl, .inr hs, _, rfl, ay, ys, rfl, .inr hs2, rfl, true, by rw [decide_eq_true (by rw [hly])], ?_⟩
        refine ⟨_, rfl, _, rfl, ax, ay, xs, ys, rfl, .inr ⟨hs, hs2, fun R hR => ?_⟩⟩
        refine ⟨fun i m Hx => m = xs.length - i ∧ i ≤ xs.length ∧ ∃ bs : List Bool, Hx R = some (.lst (bs.map V.bl)) ∧ bs.length = i ∧ bs.all id = true ∧ Sm H Hx, ⟨xs.length, by omega, by omega, [], upd_same, rfl, rfl, Sm.new hR⟩, ?_⟩
        rintro i m' Hx ⟨rfl, hi, bs, h1, h2, h3, h4⟩
        by_cases hlt : i < xs.length
        · refine .inr ⟨⟨xs, ys, _, _, h4.sqT hs, h4.sqT hs2, List.getElem?_eq_getElem hlt, List.getElem?_eq_getElem (show i < ys.length by omega)⟩, fun Hy => ∃ bs : List Bool, Hy R = some (.lst (bs.map V.bl)) ∧ bs.length = i + 1 ∧ bs.all id = true ∧ Sm H Hy, fun Hy hy => ⟨xs.length - (i + 1), by omega, rfl, by omega, hy⟩, fun x' Hy hy => ?_⟩
          obtain ⟨T, x1, y1, rfl, hT, rfl, f1, f2⟩ := hy
          have g1 := f1 xs (h4.sqT hs)
          have g2 := f2 ys (h4.sqT hs2)
          have sT : Sm Hx (upd Hx T (.tup [x1, y1])) := Sm.new hT
          have s5 := h4.trans sT
          refine ⟨T, _, rfl, SqT.of upd_same, rfl, _, _, rfl, _, _, rfl, rfl, rfl, ?_⟩
          refine ⟨x1, rfl, y1, rfl, x1, y1, rfl, (hd _ _ _ g1 g2).same s5, fun H6 s6 => ?_⟩
          have h6 := s6 _ _ (sT _ _ h1)
          refine ⟨_, h6, by rw [List.length_map]; exact lt_line (by omega), bs ++ [true], by rw [upd_same, List.map_append]; rfl, by rw [List.length_append, h2]; rfl, by rw [List.all_append, h3]; rfl, ?_⟩
          intro b o e
          rw [upd_ne (ne_of_none e hR)]
          exact s6 _ _ (s5 b o e)
        · refine .inl ⟨⟨xs, ys, h4.sqT hs, h4.sqT hs2, .inl (by omega)⟩, R, bs, rfl, SqL.of h1, ?_⟩
          rw [h3]
          exact q _ h4
end
theorem hu28 {k : Nat} {A : Around} (hr : Room k A) : A.units + 1 < cLine := by have := hr.un; omega
/-- names of items, kept in a dict -/
def NmD (ls : List Int) : List (Key × V) := (List.range ls.length).map fun i : Nat => ((Sum.inl (i : Int) : Key), V.int (ls.getD i 0))
theorem nmd_len (ls : List Int) : (NmD ls).length = ls.length := by unfold NmD; rw [List.length_map, List.length_range]
theorem nmd_at {ls : List Int} {i : Nat} (h : i < ls.length) : (NmD ls)[i]? = some (Sum.inl (i : Int), .int (ls.getD i 0)) := by
  unfold NmD
  rw [List.getElem?_map, List.getElem?_range h]
  rfl
theorem nmd_nd (ls : List Int) : ((NmD ls).map (·.1)).Nodup := by
  unfold NmD
  rw [List.map_map]
  rw [show (List.range ls.length).map (Prod.fst ∘ fun i : Nat => ((Sum.inl (i : Int) : Key), V.int (ls.getD i 0))) = (List.range ls.length).map (fun x : Nat => (Sum.inl (x : Int) : Key)) from rfl]
  exact List.pairwise_map.mpr (List.nodup_range.imp fun hab e => hab (by have := Sum.inl.inj e; omega))
theorem nmd_val {ls : List Int} {i : Nat} (h : i < ls.length) : valV (NmD ls) (Sum.inl (i : Int)) = some (.int (ls.getD i 0)) := (val_of_nd (nmd_nd ls) (nmd_at h)).1
def rI (n : Nat) : List Int := (List.range n).map fun i : Nat => (i : Int)
theorem rI_len (n : Nat) : (rI n).length = n := by unfold rI; rw [List.length_map, List.length_range]
theorem rI_at {n i : Nat} (h : i < n) : (rI n).getD i 0 = (i : Int) := by
  unfold rI
  rw [List.getD_eq_getElem?_getD, List.getElem?_map, List.getElem?_range h]
  rfl
theorem relab_len (o w : Int) (ls : List Int) : (relab o w ls).length = ls.length := by unfold relab; rw [List.length_map]
theorem relab_at {o w : Int} {ls : List Int} {i : Nat} (h : i < ls.length) : (relab o w ls).getD i 0 = if ls.getD i 0 = o then w else ls.getD i 0 := by
  unfold relab
  rw [List.getD_eq_getElem?_getD, List.getD_eq_getElem?_getD, List.getElem?_map, List.getElem?_eq_getElem h]
  rfl
theorem Lab.step2 {n : Nat} {E : List (Nat × Nat)} {ls : List Int} (h : Lab n E ls) {a b : Nat} (ha : a < n) (hb : b < n) : Lab n (E ++ [(a, b)]) (relab (ls.getD a 0) (ls.getD b 0) ls) := by
  unfold relab
  refine ⟨by rw [List.length_map]; exact h.len, fun i j hi hj => ?_⟩
  have g : ∀ {i : Nat}, i < n → (ls.map fun x => if x = ls.getD a 0 then ls.getD b 0 else x).getD i 0 = if ls.getD i 0 = ls.getD a 0 then ls.getD b 0 else ls.getD i 0 := fun {i} hi => by
    rw [List.getD_eq_getElem?_getD, List.getElem?_map, List.getElem?_eq_getElem (by rw [h.len]; exact hi), List.getD_eq_getElem?_getD (l := ls) (i := i), List.getElem?_eq_getElem (by rw [h.len]; exact hi)]
    rfl
  rw [g hi, g hj, lk_snoc, ← h.eq i j hi hj, ← h.eq i a hi ha, ← h.eq b j hb hj, ← h.eq i b hi hb, ← h.eq a j ha hj]
  generalize ls.getD i 0 = x
  generalize ls.getD j 0 = y
  generalize ls.getD a 0 = p
  generalize ls.getD b 0 = q
  by_cases e1 : x = p
  · by_cases e2 : y = p
    · rw [if_pos e1, if_pos e2]
      exact ⟨fun _ => .inl (e1.trans e2.symm), fun _ => rfl⟩
    · rw [if_pos e1, if_neg e2]
      constructor
      · intro z; exact .inr (.inl ⟨e1, z⟩)
      · rintro (z | ⟨_, z⟩ | ⟨_, z⟩)
        · exact absurd (z ▸ e1) e2
        · exact z
        · exact absurd z.symm e2
  · by_cases e2 : y = p
    · rw [if_neg e1, if_pos e2]
      constructor
      · intro z; exact .inr (.inr ⟨z, e2.symm⟩)
      · rintro (z | ⟨z, _⟩ | ⟨z, _⟩)
        · exact absurd (z.trans e2) e1
        · exact absurd z e1
        · exact z
    · rw [if_neg e1, if_neg e2]
      constructor
      · intro z; exact .inl z
      · rintro (z | ⟨z, _⟩ | ⟨_, z⟩)
        · exact z
        · exact absurd z e1
        · exact absurd z.symm e2
section
variable {P : Program} {w : World} {K : PySem.W.Frag} {mg : Str → Option Value} {base : Heap}
/-! ### the program: names, united -/
def sp_own28 (K : PySem.W.Frag) : Sp := fun vs H Q _ => ∃ (l : Addr) (n : Nat), vs = [.ref l] ∧ SqL K H l ((rI n).map V.int) ∧ n ≤ 20 ∧ ∀ (H' : Hp) (d : Addr), Sm H H' → H d = none → H' d = some (.dK (NmD (rI n))) → Q (.ref d) H'
theorem ok_own28 {f : Addr} {fd : FuncData} {k : Nat} (F : Fun K "own_sets" "own_sets" s_own_sets f fd) (B : Bi mg) : FnOk P w K mg base CX0 (k + 1) f fd ["members"] (sp_own28 K) := by
  refine F.ok sc_own_sets (fun vs H Q E h => ?_) (fun cdv A outer s H vs Q E hr h => ?_)
  · obtain ⟨l, n, rfl, _⟩ := h
    rfl
  · obtain ⟨l, n, rfl, hl, h20, q⟩ := h
    have nd := sc_own_sets.nd
    refine ⟨_, pss_one (ps_ret (pe_dc (own := [("member", 1)]) (g := gName 1) (tt := tYes) (tk := tVar 1) (tv := tVar 1) rfl nd (pi_list (pv 0)) (blkOk_by (N := N_own_sets) (sc := defScope s_own_sets) (by decide +kernel))
      (fun _ _ _ _ _ => pg_name (i := 1) nd rfl (.inl rfl)) (fun _ _ _ _ _ => pts_nil) (fun _ _ _ _ _ => pv 1) (fun _ _ _ _ _ => pv 1))), ?_⟩
    refine ⟨.ref l, rfl, l, rfl, ⟨_, hl⟩, fun D hD => dc_it (walk_list (K := K) (a := l) (xs := (rI n).map V.int)) (fun i Hx => Hx D = some (.dK ((NmD (rI n)).take i)) ∧ Sm H Hx) ⟨by rw [upd_same, List.take_zero], Sm.new hD⟩ (fun i Hx _ hP => hP.2.sqL hl) (fun i x Hx Hx' hi hP hY => ?_) (fun Hx hP => ?_)⟩
    · obtain ⟨rfl, hx⟩ := hY
      obtain ⟨g1, g2⟩ := hP
      rw [List.length_map, rI_len] at hi
      have hi2 : i < (rI n).length := by rw [rI_len]; exact hi
      rw [List.getElem?_map, List.getElem?_eq_getElem hi2] at hx
      have ex : x = .int (i : Int) := by
        have := rI_at hi
        rw [List.getD_eq_getElem?_getD, List.getElem?_eq_getElem hi2] at this
        rw [← Option.some.inj hx]
        exact congrArg V.int this
      subst ex
      obtain ⟨v1, v2, v3⟩ := val_of_nd (nmd_nd (rI n)) (nmd_at hi2)
      rw [rI_at hi] at v1 v3
      refine ⟨rfl, .int (i : Int), rfl, .int (i : Int), rfl, _, Sum.inl (i : Int), rfl, g1, ?_, ?_, fun c u e => ?_⟩
      · rw [List.length_take]
        exact small1000 (by omega)
      · rw [upd_same, put_new v2, v3]
      · rw [upd_ne (ne_of_none e hD)]
        exact g2 c u e
    · obtain ⟨g1, g2⟩ := hP
      rw [List.length_map, List.take_of_length_le (by rw [nmd_len]; exact Nat.le_refl _)] at g1
      exact q Hx D g2 hD g1
def sp_uni28 (K : PySem.W.Frag) : Sp := fun vs H Q _ => ∃ (d : Addr) (ls : List Int) (a b : Nat), vs = [.ref d, .int (a : Int), .int (b : Int)] ∧ H d = some (.dK (NmD ls)) ∧ a < ls.length ∧ b < ls.length ∧ ls.length ≤ 20 ∧ ∀ (H' : Hp) (e : Addr), Sm H H' → H e = none → H' e = some (.dK (NmD (relab (ls.getD a 0) (ls.getD b 0) ls))) → Q (.ref e) H'
theorem ok_uni28 {f : Addr} {fd : FuncData} {k : Nat} (F : Fun K "united" "united" s_united f fd) (B : Bi mg) : FnOk P w K mg base CX0 (k + 1) f fd ["names", "one", "other"] (sp_uni28 K) := by
  refine F.ok sc_united (fun vs H Q E h => ?_) (fun cdv A outer s H vs Q E hr h => ?_)
  · obtain ⟨d, ls, a, b, rfl, _⟩ := h
    rfl
  · obtain ⟨d, ls, a, b, rfl, hd, ha, hb, h20, q⟩ := h
    have nd := sc_united.nd
    refine ⟨_, pss_cons (ps_set (i := 3) nd rfl (.inr rfl) (pe_dget (hu28 hr) (pv 0) (pv 1) (fun _ _ => rfl)))
      (pss_cons (ps_set (i := 4) nd rfl (.inr rfl) (pe_dget (hu28 hr) (pv 0) (pv 2) (fun _ _ => rfl)))
      (pss_one (ps_lock (ps_ret (pe_dc (own := [("member", 5)]) (g := gName 5) (tt := tYes) (tk := tVar 5) (tv := tIf (tTest (tOp (fun x y H Q => scal x y = true ∧ Q (.bl (decide (x = y))) H) (tDGet (tVar 0) (tVar 5)) (tVar 3))) (tVar 4) (tDGet (tVar 0) (tVar 5))) rfl nd (pi_keys (pv 0)) (blkOk_by (N := N_united) (sc := defScope s_united) (by decide +kernel))
        (fun _ _ _ _ _ => pg_name (i := 5) nd rfl (.inl rfl)) (fun _ _ _ _ _ => pts_nil) (fun _ _ _ _ _ => pv 5) (fun _ _ _ _ _ => pe_ifExp (pt_cmpR op_eq (pe_dget (hu28 hr) (pv 0) (pv 5) (fun _ _ => rfl)) (pv 3) (nomark _)) (pv 4) (pe_dget (hu28 hr) (pv 0) (pv 5) (fun _ _ => rfl)))))))), ?_⟩
    refine ⟨.ref d, rfl, .int (a : Int), rfl, d, _, rfl, .inl ⟨_, Sum.inl (a : Int), .inl hd, rfl, (nmd_val ha).symm⟩, ?_⟩
    refine nx_mk ?_
    refine ⟨.ref d, rfl, .int (b : Int), rfl, d, _, rfl, .inl ⟨_, Sum.inl (b : Int), .inl hd, rfl, (nmd_val hb).symm⟩, ?_⟩
    refine nx_mk ?_
    generalize hR : relab (ls.getD a 0) (ls.getD b 0) ls = rl at q
    have rll : rl.length = ls.length := by rw [← hR, relab_len]
    refine ⟨d, _, hd, trivial, fun od => ?_⟩
    have z1 : (upd H d (.frz od (.dK (NmD ls)))) d = some (.frz od (.dK (NmD ls))) := upd_same
    refine ⟨.ref d, rfl, d, od, rfl, .inl ⟨_, z1, fun D hDn => dc_it walk_keys (fun i Hx => Hx D = some (.dK ((NmD rl).take i)) ∧ Sm (upd H d (.frz od (.dK (NmD ls)))) Hx) ⟨by rw [upd_same, List.take_zero], Sm.new hDn⟩ (fun i Hx _ hP => hP.2 _ _ z1) (fun i x Hx Hx' hi hP hY => ?_) (fun Hx hP => ?_)⟩⟩
    · obtain ⟨rfl, k, v, hkv, rfl⟩ := hY
      obtain ⟨g1, g2⟩ := hP
      rw [nmd_len] at hi
      rw [nmd_at hi] at hkv
      obtain ⟨rfl, rfl⟩ : (Sum.inl (i : Int) : Key) = k ∧ V.int (ls.getD i 0) = v := by
        have := Option.some.inj hkv
        exact ⟨congrArg Prod.fst this, congrArg Prod.snd this⟩
      have hi2 : i < rl.length := by omega
      obtain ⟨v1, v2, v3⟩ := val_of_nd (nmd_nd rl) (nmd_at hi2)
      have get : DGet Hx' d (.int (i : Int)) (some (.int (ls.getD i 0))) := .inl ⟨_, Sum.inl (i : Int), .inr ⟨od, g2 _ _ z1⟩, rfl, (nmd_val hi).symm⟩
      have er : rl.getD i 0 = if ls.getD i 0 = ls.getD a 0 then ls.getD b 0 else ls.getD i 0 := by rw [← hR, relab_at hi]
      have fin : ∃ kvs k, V.int (i : Int) = kV k ∧ Hx' D = some (.dK kvs) ∧ kvs.length < sizeLine ∧ ((upd Hx' D (.dK (putK kvs k (.int (rl.getD i 0))))) D = some (.dK ((NmD rl).take (i + 1))) ∧ Sm (upd H d (.frz od (.dK (NmD ls)))) (upd Hx' D (.dK (putK kvs k (.int (rl.getD i 0)))))) := by
        refine ⟨_, Sum.inl (i : Int), rfl, g1, ?_, ?_, fun c u e => ?_⟩
        · rw [List.length_take]
          exact small1000 (by omega)
        · rw [upd_same, put_new v2, v3]
        · rw [upd_ne (ne_of_none e hDn)]
          exact g2 c u e
      refine ⟨rfl, .int (i : Int), rfl, .ref d, rfl, .int (i : Int), rfl, d, _, rfl, get, .int (ls.getD a 0), rfl, rfl, _, rfl, ?_⟩
      by_cases e : ls.getD i 0 = ls.getD a 0
      · rw [decide_eq_true (show V.int (ls.getD i 0) = V.int (ls.getD a 0) by rw [e])]
        rw [if_pos e] at er
        rw [er] at fin
        exact ⟨_, rfl, fin⟩
      · rw [decide_eq_false (fun z => e (V.int.inj z))]
        rw [if_neg e] at er
        rw [er] at fin
        exact ⟨.ref d, rfl, .int (i : Int), rfl, d, _, rfl, get, fin⟩
    · obtain ⟨g1, g2⟩ := hP
      rw [nmd_len, List.take_of_length_le (by rw [nmd_len]; omega)] at g1
      have dpD : D ≠ d := (ne_of_none z1 hDn).symm
      refine ⟨g2 _ _ z1, q _ D (Sm.unlock hd g2) ?_ (by rw [upd_ne dpD]; exact g1)⟩
      cases e : H D with
      | none => rfl
      | some o =>
        rw [upd_ne dpD] at hDn
        rw [hDn] at e
        cases e
end
/-! ### values that are spanning trees -/
/-- a pair of items -/
def isPr29 (n : Nat) : PyData → Bool
  | .tuple [.int i, .int j] => decide (0 ≤ i) && decide (i < j) && decide (j < (n : Int))
  | _ => false
theorem isPr_ex29 {n : Nat} {x : PyData} (h : isPr29 n x = true) : ∃ e : Nat × Nat, x = rowD (e2 e) ∧ e ∈ ppre n n := by
  unfold isPr29 at h
  split at h
  · rename_i i j
    rw [Bool.and_eq_true, Bool.and_eq_true, decide_eq_true_eq, decide_eq_true_eq, decide_eq_true_eq] at h
    refine ⟨(i.toNat, j.toNat), ?_, mem_ppre.mpr (by omega)⟩
    show PyData.tuple [.int i, .int j] = .tuple [.int ((i.toNat : Nat) : Int), .int ((j.toNat : Nat) : Int)]
    rw [Int.toNat_of_nonneg (by omega), Int.toNat_of_nonneg (by omega)]
  · cases h
theorem isPr_of29 {n : Nat} {e : Nat × Nat} (h : e ∈ ppre n n) : isPr29 n (rowD (e2 e)) = true := by
  obtain ⟨h1, h2, h3⟩ := mem_ppre.mp (show (e.1, e.2) ∈ ppre n n from h)
  show (decide ((0 : Int) ≤ (e.1 : Int)) && decide ((e.1 : Int) < (e.2 : Int)) && decide ((e.2 : Int) < (n : Int))) = true
  rw [decide_eq_true (by omega), decide_eq_true (by omega), decide_eq_true (by omega)]
  rfl
theorem allPr_ex29 {n : Nat} : ∀ {ds : List PyData}, ds.all (isPr29 n) = true → ∃ T : List (Nat × Nat), ds = (T.map e2).map rowD ∧ ∀ e ∈ T, e ∈ ppre n n
  | [], _ => ⟨[], rfl, fun e h => by cases h⟩
  | d :: ds, h => by
    rw [List.all_cons, Bool.and_eq_true] at h
    obtain ⟨e, rfl, he⟩ := isPr_ex29 h.1
    obtain ⟨T, rfl, hT⟩ := allPr_ex29 h.2
    exact ⟨e :: T, rfl, fun f hf => by
      rcases List.mem_cons.mp hf with rfl | hf
      · exact he
      · exact hT f hf⟩
theorem allPr_of29 {n : Nat} {T : List (Nat × Nat)} (h : ∀ e ∈ T, e ∈ ppre n n) : ((T.map e2).map rowD).all (isPr29 n) = true :=
  List.all_eq_true.mpr fun x hx => by
    obtain ⟨l, hl, rfl⟩ := List.mem_map.mp hx
    obtain ⟨e, he, rfl⟩ := List.mem_map.mp hl
    exact isPr_of29 (h e he)
theorem e2_inj29 {e f : Nat × Nat} (h : e2 e = e2 f) : e = f := by
  have h : [(e.1 : Int), (e.2 : Int)] = [(f.1 : Int), (f.2 : Int)] := h
  simp only [List.cons.injEq, and_true] at h
  exact Prod.ext (by omega) (by omega)
theorem e2s_inj29 : ∀ {S T : List (Nat × Nat)}, S.map e2 = T.map e2 → S = T
  | [], [], _ => rfl
  | e :: S, f :: T, h => by
    rw [List.map_cons, List.map_cons] at h
    injection h with h1 h2
    rw [e2_inj29 h1, e2s_inj29 h2]
  | [], _ :: _, h => by cases h
  | _ :: _, [], h => by cases h
theorem rows_inj29 {S T : List (Nat × Nat)} (h : (S.map e2).map rowD = (T.map e2).map rowD) : S = T := by
  have := eqvAll_rows (S.map e2) (T.map e2)
  rw [h, eqvAll_rows] at this
  exact e2s_inj29 (of_decide_eq_true (this.symm.trans (decide_eq_true rfl)))
theorem Plt.irrefl29 {p : Nat × Nat} (h : Plt p p) : False := by
  unfold Plt at h
  omega
/-- pairs in order, the same ones -/
theorem plt_eq29 {S T : List (Nat × Nat)} (h : S.Pairwise Plt) (k : T.Pairwise Plt) (e : ∀ x, x ∈ S ↔ x ∈ T) : S = T :=
  ((List.perm_ext_iff_of_nodup (asc_nd h) (asc_nd k)).mpr e).eq_of_pairwise (le := fun p q => Plt p q ∨ p = q) (fun a b _ _ x y => by
    rcases x with x | x
    · rcases y with y | y
      · exact absurd (x.trans y) (fun z => Plt.irrefl29 z)
      · exact y.symm
    · exact x) (h.imp fun z => .inl z) (k.imp fun z => .inl z)
/-- a spanning tree of n items -/
noncomputable def spanB29 (n : Nat) (x : PyData) : Bool := @decide (∃ T, Span n T ∧ x = prsD T) (Classical.propDecidable _)
theorem span_iff29 {n : Nat} {x : PyData} : spanB29 n x = true ↔ ∃ T, Span n T ∧ x = prsD T := by
  exact @decide_eq_true_iff _ (Classical.propDecidable _)
theorem span_tup29 {n : Nat} {x : PyData} (h : isT x = false) : spanB29 n x = false := by
  cases e : spanB29 n x with
  | false => rfl
  | true =>
    obtain ⟨T, _, rfl⟩ := span_iff29.mp e
    cases h
theorem span_len29 {n : Nat} {ds : List PyData} (h : ds.length + 1 ≠ n) : spanB29 n (.tuple ds) = false := by
  cases e : spanB29 n (.tuple ds) with
  | false => rfl
  | true =>
    obtain ⟨T, hT, eT⟩ := span_iff29.mp e
    have eT : ds = (T.map e2).map rowD := PyData.tuple.inj eT
    refine absurd ?_ h
    rw [eT, List.length_map, List.length_map]
    exact hT.len
theorem span_pr29 {n : Nat} {ds : List PyData} (h : ds.all (isPr29 n) = false) : spanB29 n (.tuple ds) = false := by
  cases e : spanB29 n (.tuple ds) with
  | false => rfl
  | true =>
    obtain ⟨T, hT, eT⟩ := span_iff29.mp e
    have eT : ds = (T.map e2).map rowD := PyData.tuple.inj eT
    rw [eT, allPr_of29 hT.sub] at h
    cases h
/-- of pairs, one less than items: in order, and all connected -/
theorem span_T29 {n : Nat} {T S : List (Nat × Nat)} (hl : T.length + 1 = n) (hT : ∀ e ∈ T, e ∈ ppre n n) (hS : S.Pairwise Plt) (hm : ∀ e, e ∈ S ↔ e ∈ T) : spanB29 n (prsD T) = (decide (S = T) && connB n T) := by
  refine Bool.eq_iff_iff.mpr ?_
  rw [span_iff29, Bool.and_eq_true, decide_eq_true_iff, connB_iff]
  constructor
  · rintro ⟨T', h, e⟩
    obtain rfl := rows_inj29 (PyData.tuple.inj e)
    exact ⟨plt_eq29 hS h.asc hm, h.con⟩
  · rintro ⟨rfl, hc⟩
    exact ⟨S, ⟨hS, hT, hl, hc⟩, rfl⟩
theorem eqv_rows29 (S T : List (Nat × Nat)) : PyData.eqv (.list ((S.map e2).map rowD)) (.list ((T.map e2).map rowD)) = decide (S = T) := by
  have e : PyData.eqv (.list ((S.map e2).map rowD)) (.list ((T.map e2).map rowD)) = PyData.eqvAll ((S.map e2).map rowD) ((T.map e2).map rowD) := by unfold PyData.eqv; rfl
  rw [e, eqvAll_rows, decide_eq_decide]
  exact ⟨e2s_inj29, fun h => by rw [h]⟩
theorem shaped_rows29 (S : List (Nat × Nat)) : SeqAt.shaped (.list ((S.map e2).map rowD)) = true := by
  have h1 : PyData.canLayAll0 ((S.map e2).map rowD) = true := by
    induction S with
    | nil => rfl
    | cons e S ih =>
      have h0 : (rowD (e2 e)).canLay0 = true := rfl
      rw [List.map_cons, List.map_cons]
      show (PyData.canLay0 _ && PyData.canLayAll0 _) = true
      rw [h0, ih]
      rfl
  have h2 : PyData.depthAll ((S.map e2).map rowD) ≤ 1 := by
    clear h1
    induction S with
    | nil => simp [PyData.depthAll]
    | cons e S ih =>
      have h0 : (rowD (e2 e)).depth = 1 := rfl
      rw [List.map_cons, List.map_cons]
      simp only [PyData.depthAll, h0]
      omega
  show (PyData.canLay0 _ && decide (PyData.depth _ ≤ 64)) = true
  rw [Bool.and_eq_true, decide_eq_true_eq]
  refine ⟨by simpa [PyData.canLay0] using h1, ?_⟩
  simp only [PyData.depth]
  omega
section
variable {K : PySem.W.Frag} {H H' : Hp}
theorem dp_prs29 : ∀ {vs : List V} {T : List (Nat × Nat)}, Prs K H vs T → DpAll K H vs ((T.map e2).map rowD)
  | [], [], _ => .nil
  | v :: vs, e :: T, h => by
    obtain ⟨a, rfl, ha⟩ := h.2 0 v e rfl rfl
    exact .cons (.tup ha (.cons (.int _) (.cons (.int _) .nil))) (dp_prs29 ⟨Nat.succ.inj h.1, fun i u f a b => h.2 (i + 1) u f a b⟩)
  | [], _ :: _, h => by cases h.1
  | _ :: _, [], h => by cases h.1
theorem prs_da29 {ok : Addr → Prop} : ∀ {vs : List V} {T : List (Nat × Nat)}, DaAll K ok H vs ((T.map e2).map rowD) → Prs K H vs T
  | [], [], _ => .nil
  | v :: vs, e :: T, h => by
    cases h with
    | cons h1 h2 =>
      have h1 : Da K ok H v (.tuple [.int (e.1 : Int), .int (e.2 : Int)]) := h1
      cases h1 with
      | tup hs ha =>
        cases ha with
        | cons a b =>
          cases a
          cases b with
          | cons a b =>
            cases a
            cases b
            exact (Prs.one hs).append (prs_da29 h2)
  | [], _ :: _, h => by cases h
  | _ :: _, [], h => by cases h
theorem da_prs29 {ok : Addr → Prop} : ∀ {vs : List V} {T : List (Nat × Nat)}, Prs K H vs T → DaAll K ok H vs ((T.map e2).map rowD)
  | [], [], _ => .nil
  | v :: vs, e :: T, h => by
    obtain ⟨a, rfl, ha⟩ := h.2 0 v e rfl rfl
    exact .cons (.tup ha (.cons (.int _) (.cons (.int _) .nil))) (da_prs29 ⟨Nat.succ.inj h.1, fun i u f a b => h.2 (i + 1) u f a b⟩)
  | [], _ :: _, h => by cases h.1
  | _ :: _, [], h => by cases h.1
/-- places and pairs -/
theorem prs_ks29 : ∀ {vs : List V} {T : List (Nat × Nat)}, Prs K H vs T → ∃ ks : List (Addr × List Int), vs = ks.map (fun p => V.ref p.1) ∧ ks.map (·.2) = T.map e2 ∧ ∀ p ∈ ks, SqT K H p.1 (p.2.map V.int)
  | [], [], _ => ⟨[], rfl, rfl, fun p h => by cases h⟩
  | v :: vs, e :: T, h => by
    obtain ⟨a, rfl, ha⟩ := h.2 0 v e rfl rfl
    obtain ⟨ks, rfl, h2, h3⟩ := prs_ks29 (vs := vs) (T := T) ⟨Nat.succ.inj h.1, fun i u f a b => h.2 (i + 1) u f a b⟩
    refine ⟨(a, e2 e) :: ks, rfl, by rw [List.map_cons, List.map_cons, h2], fun p hp => ?_⟩
    rcases List.mem_cons.mp hp with rfl | hp
    · exact ha
    · exact h3 p hp
  | [], _ :: _, h => by cases h.1
  | _ :: _, [], h => by cases h.1
theorem ks_prs29 : ∀ {ks : List (Addr × List Int)} {S : List (Nat × Nat)}, ks.map (·.2) = S.map e2 → (∀ p ∈ ks, SqT K H p.1 (p.2.map V.int)) → Prs K H (ks.map fun p => V.ref p.1) S
  | [], [], _, _ => .nil
  | p :: ks, e :: S, h, g => by
    rw [List.map_cons, List.map_cons] at h
    injection h with h1 h2
    have hp := g p List.mem_cons_self
    rw [h1] at hp
    exact (Prs.one (a := p.1) (i := e.1) (j := e.2) hp).append (ks_prs29 h2 fun q hq => g q (List.mem_cons_of_mem _ hq))
  | [], _ :: _, h, _ => by cases h
  | _ :: _, [], h, _ => by cases h
/-- the pairs behind rows of two ints -/
theorem rows_ex29 : ∀ {ls : List (List Int)} {T : List (Nat × Nat)}, (∀ l ∈ ls, l ∈ T.map e2) → ∃ S : List (Nat × Nat), ls = S.map e2 ∧ ∀ e ∈ S, e ∈ T
  | [], _, _ => ⟨[], rfl, fun e h => by cases h⟩
  | l :: ls, T, h => by
    obtain ⟨e, he, rfl⟩ := List.mem_map.mp (h l List.mem_cons_self)
    obtain ⟨S, rfl, hS⟩ := rows_ex29 (ls := ls) (T := T) fun m hm => h m (List.mem_cons_of_mem _ hm)
    exact ⟨e :: S, rfl, fun f hf => by
      rcases List.mem_cons.mp hf with rfl | hf
      · exact he
      · exact hS f hf⟩
/-- sorted(set(..)) of pairs of items -/
theorem srt_set29 {Pr : Program} {w : World} {σ : L2.St} {p : Addr} {i n : Nat} {vs : List V} {T : List (Nat × Nat)} {Q : VK} (hi : σ[i]? = some (some (.ref p))) (hs : SqT K H p vs) (hP : Prs K H vs T) (hin : ∀ e ∈ T, e ∈ ppre n n) (hn : n ≤ 60) (hl : T.length ≤ 60)
    (q : ∀ (H' : Hp) (b : Addr) (ys : List V) (S : List (Nat × Nat)), Sm H H' → H' b = some (.lst ys) → Prs K H' ys S → S.Pairwise Plt → (∀ e, e ∈ S ↔ e ∈ T) → Q (.ref b) H') :
    tCB (rSortedT K Pr w) (tCons (tCB (rSetP K Pr w) (tCons (tVar i) tNil)) tNil) σ H Q := by
  obtain ⟨ks, rfl, hk, hkk⟩ := prs_ks29 hP
  have hkl : ks.length = T.length := by
    have := congrArg List.length hk
    rwa [List.length_map, List.length_map] at this
  refine ⟨.ref p, hi, p, ks, rfl, hs, hkk, by omega, fun a L ha h1 h2 => ?_⟩
  have s1 := Sm.new (o := SetTO Pr w a L) ha
  have m1 : (upd H a (SetTO Pr w a L)) a = some (SetTO Pr w a L) := upd_same
  generalize upd H a (SetTO Pr w a L) = H1 at s1 m1
  have hL : ∀ e ∈ L, e.2 ∈ T.map e2 := fun e he => by
    rw [← hk]
    exact List.mem_map.mpr ⟨e, h1 e he, rfl⟩
  refine ⟨a, L, 2, 64, rfl, m1, fun e he => s1.sqT (hkk e (h1 e he)), by decide, fun e he => ?_, fun L' b pm nd few pw hb => ?_⟩
  · obtain ⟨f, hf, ef⟩ := List.mem_map.mp (hL e he)
    obtain ⟨g1, g2, g3⟩ := mem_ppre.mp (show (f.1, f.2) ∈ ppre n n from hin f hf)
    rw [← ef]
    refine ⟨rfl, fun x hx => ?_⟩
    have hx : x ∈ [(f.1 : Int), (f.2 : Int)] := hx
    simp only [List.mem_cons, List.not_mem_nil, or_false] at hx
    rcases hx with rfl | rfl <;> omega
  · have s2 := Sm.new (o := .lst (L'.map fun q => V.ref q.1)) hb
    obtain ⟨S, eS, hS⟩ := rows_ex29 (ls := L'.map (·.2)) (T := T) fun l hl => by
      obtain ⟨e, he, rfl⟩ := List.mem_map.mp hl
      exact hL e (pm.mem_iff.mp he)
    have SL : S.length = L'.length := by
      have := congrArg List.length eS
      rw [List.length_map, List.length_map] at this
      exact this.symm
    refine q _ b _ S (s1.trans s2) upd_same (ks_prs29 eS fun e he => s2.sqT (s1.sqT (hkk e (h1 e (pm.mem_iff.mp he))))) ?_ fun e => ⟨hS e, fun he => ?_⟩
    · have pw2 : (L'.map (·.2)).Pairwise (fun x y => TS.code 64 x ≤ TS.code 64 y) := List.pairwise_map.mpr pw
      rw [eS] at pw2 nd
      have pw3 := List.pairwise_map.mp pw2
      have nd2 : S.Pairwise (fun x y => e2 x ≠ e2 y) := List.pairwise_map.mp nd
      refine (pw3.and nd2).imp_of_mem fun {x y} hx hy z => ?_
      obtain ⟨z1, z2⟩ := z
      obtain ⟨g1, g2, g3⟩ := mem_ppre.mp (show (x.1, x.2) ∈ ppre n n from hin x (hS x hx))
      obtain ⟨k1, k2, k3⟩ := mem_ppre.mp (show (y.1, y.2) ∈ ppre n n from hin y (hS y hy))
      have c1 : TS.code 64 (e2 x) = (x.1 : Int) * 64 + (x.2 : Int) := code_pair _ _
      have c2 : TS.code 64 (e2 y) = (y.1 : Int) * 64 + (y.2 : Int) := code_pair _ _
      rw [c1, c2] at z1
      have ne : ¬ (x.1 = y.1 ∧ x.2 = y.2) := fun e => z2 (by rw [show x = y from Prod.ext e.1 e.2])
      unfold Plt
      omega
    · have : e2 e ∈ L.map (·.2) := by
        have hm : e2 e ∈ ks.map (·.2) := by rw [hk]; exact List.mem_map.mpr ⟨e, he, rfl⟩
        obtain ⟨f, hf, ef⟩ := List.mem_map.mp hm
        rw [← ef]
        exact h2 f hf
      have m2 : e2 e ∈ L'.map (·.2) := (pm.map (·.2)).mem_iff.mpr this
      rw [eS] at m2
      obtain ⟨f, hf, ef⟩ := List.mem_map.mp m2
      rw [← e2_inj29 ef]
      exact hf
end
section
variable {P : Program} {w : World} {K : PySem.W.Frag} {mg : Str → Option Value} {base : Heap}
/-! ### the law: connected, and the sum of levels -/
theorem rg31 (n : Nat) : rgV 0 (n : Int) = ((List.range n).map fun i : Nat => (i : Int)).map V.int := by
  unfold rgV
  rw [show ((n : Int) - 0).toNat = n by omega, List.map_map]
  refine List.map_congr_left fun i _ => ?_
  show V.int (0 + (i : Int)) = V.int (i : Int)
  rw [Int.zero_add]
theorem int_at {ls : List Int} {k : Nat} (h : k < ls.length) : (ls.map V.int)[k]? = some (.int (ls.getD k 0)) := by
  rw [List.getElem?_map, List.getElem?_eq_getElem h, gd_lt h]
  rfl
def sp_conn (K : PySem.W.Frag) : Sp := fun vs H Q _ => ∃ (n : Nat) (p : Addr) (ws : List V) (E : List (Nat × Nat)), vs = [.int (n : Int), .ref p] ∧ SqT K H p ws ∧ Prs K H ws E ∧ (∀ e ∈ E, e ∈ ppre n n) ∧ 1 ≤ n ∧ n ≤ 20 ∧ ∀ H', Sm H H' → Q (.bl (connB n E)) H'
theorem ok_conn {f : Addr} {fd : FuncData} {k : Nat} (F : Fun K "_law_is_connected" "_law_is_connected" s_L_is_connected f fd) (B : Bi mg) : FnOk P w K mg base CX0 (k + 1) f fd ["_law_count_here", "_law_pairs_here"] (sp_conn K) := by
  refine F.ok sc_L_is_connected (fun vs H Q E h => ?_) (fun cdv A outer s H vs Q E hr h => ?_)
  · obtain ⟨n, p, ws, E, rfl, _⟩ := h
    rfl
  · obtain ⟨n, p, ws, Ed, rfl, hp, hP, hin, h1, h20, q⟩ := h
    have nd := sc_L_is_connected.nd
    refine ⟨_, (pss_cons (ps_set (i := 2) nd rfl (.inl rfl) (pe_listRg rfl (by rfl) B.list (prg_1 (by rfl) B.range (pv 0))))
      (pss_cons (ps_for PassesOwn.never rfl (pi_tup (pv 1)) (pg_tup rfl (pgs_cons (pg_name (i := 3) nd rfl (.inl rfl)) (pgs_cons (pg_name (i := 4) nd rfl (.inl rfl)) pgs_nil)))
      (pss_cons (ps_asg (pe_tup (pa_cons (pe_ix ix_list (pv 2) (pv 4) (fun _ _ => rfl)) (pa_cons (pe_ix ix_list (pv 2) (pv 3) (fun _ _ => rfl)) pa_nil))) (pg_tup rfl (pgs_cons (pg_name (i := 5) nd rfl (.inr rfl)) (pgs_cons (pg_name (i := 6) nd rfl (.inr rfl)) pgs_nil))))
      (pss_one (ps_setLc (i := 2) (own := [("_law_label", 7)]) (g := gName 7) (tt := tYes) (te := tIf (tB (tOp (fun x y H Q => scal x y = true ∧ Q (.bl (decide (x = y))) H) (tVar 7) (tVar 5))) (tVar 6) (tVar 7)) rfl nd rfl rfl (sw_true rfl rfl rfl (by decide +kernel)) (pi_list (pv 2)) (blkOk_by (N := N_L_is_connected) (sc := defScope s_L_is_connected) (by decide +kernel))
            (fun _ _ _ _ _ => pg_name (i := 7) nd rfl (.inl rfl)) (fun _ _ _ _ _ => pts_nil) (fun _ _ _ _ _ => (pe_ifExp (pt_cmpR op_eq (pv 7) (pv 5) (nomark _)) (pv 6) (pv 7)))))))
      (pss_one (ps_ret (pe_cmpR op_eq (pe_callB cr_lenS (by rfl) B.len PySem.boot_len (pa_cons (pe_callTy (cr_setL2 rfl) (by rfl) B.set (by decide +kernel) (pa_cons (pv 2) pa_nil)) pa_nil)) pe_int (nomark _)))))), ?_⟩
    refine ⟨_, rfl, (n : Int), rfl, RgOk.of_le (by decide) (by omega) (by decide) (by omega), fun lb hlb => ?_⟩
    rw [rg31 n]
    have s1 := Sm.new (o := .lst (((List.range n).map fun i : Nat => (i : Int)).map V.int)) hlb
    have e1 : (upd H lb (.lst (((List.range n).map fun i : Nat => (i : Int)).map V.int))) lb = some (.lst (((List.range n).map fun i : Nat => (i : Int)).map V.int)) := upd_same
    generalize upd H lb (.lst (((List.range n).map fun i : Nat => (i : Int)).map V.int)) = H1 at s1 e1
    have L0 := Lab.start n
    generalize ((List.range n).map fun i : Nat => (i : Int)) = ls0 at e1 L0
    refine nx_mk ?_
    have hp1 := s1.sqT hp
    refine ⟨.ref p, rfl, p, rfl, ⟨_, hp1⟩, for_tup (xs := ws) (fun m σ Hx => ∃ lb ls x3 x4 x5 x6, σ = [some (.int (n : Int)), some (.ref p), some (.ref lb), x3, x4, x5, x6, none] ∧ Hx lb = some (.lst (ls.map V.int)) ∧ Lab n (Ed.take m) ls ∧ Sm H1 Hx) ⟨lb, ls0, none, none, none, none, rfl, e1, by rw [List.take_zero]; exact L0, Sm.refl _⟩ (fun m σ Hx _ hI => ?_) (fun m y σ Hx hy hI => ?_) (fun σ Hx hI => ?_)⟩
    · obtain ⟨_, _, _, _, _, _, _, _, _, sx⟩ := hI
      exact sx.sqT hp1
    · obtain ⟨lb, ls, x3, x4, x5, x6, rfl, hl, hL, sx⟩ := hI
      have hm : m < Ed.length := by rw [← hP.1]; exact (List.getElem?_eq_some_iff.mp hy).1
      obtain ⟨⟨a, b⟩, hab⟩ : ∃ ab, Ed[m]? = some ab := ⟨_, List.getElem?_eq_getElem hm⟩
      obtain ⟨pa, rfl, hpa⟩ := hP.2 m y (a, b) hy hab
      obtain ⟨ha, hlt, hb⟩ := mem_ppre.mp (hin _ (List.mem_of_getElem? hab))
      have ll := hL.len
      refine ⟨pa, _, rfl, (s1.trans sx).sqT hpa, rfl, _, _, rfl, _, _, rfl, rfl, ?_⟩
      refine ⟨.ref lb, rfl, .int (b : Int), rfl, lb, _, _, _, rfl, rfl, SqL.of hl, atI_nat (int_at (by omega)), .ref lb, rfl, .int (a : Int), rfl, lb, _, _, _, rfl, rfl, SqL.of hl, atI_nat (int_at (by omega)), (by show 2 ≤ sizeLine; decide), fun tp htp => ?_⟩
      have s2 := Sm.new (o := .tup [.int (ls.getD b 0), .int (ls.getD a 0)]) htp
      refine ⟨tp, _, rfl, SqT.of upd_same, rfl, _, _, rfl, _, _, rfl, rfl, ?_⟩
      have hl2 := s2 _ _ hl
      have sx2 := sx.trans s2
      generalize upd Hx tp (.tup [.int (ls.getD b 0), .int (ls.getD a 0)]) = H2 at hl2 sx2
      have hL' := hL.step ha hb
      have et : Ed.take (m + 1) = Ed.take m ++ [(a, b)] := by rw [List.take_add_one, hab]; rfl
      rw [← et] at hL'
      have rl : (relab (ls.getD b 0) (ls.getD a 0) ls).length = ls.length := List.length_map _
      refine ⟨.ref lb, rfl, lb, rfl, ⟨_, SqL.of hl2⟩, fun D hD => lc_list (xs := ls.map V.int) (fun j Hz => Hz D = some (.lst (((relab (ls.getD b 0) (ls.getD a 0) ls).take j).map V.int)) ∧ Sm H2 Hz) ⟨upd_same, Sm.new hD⟩ (fun j Hz _ hQ => hQ.2.sqL (SqL.of hl2)) (fun j z Hz hz hQ => ?_) (fun Hz hQ => ?_)⟩
      · obtain ⟨g1, sz⟩ := hQ
        have hj : j < ls.length := by
          have := (List.getElem?_eq_some_iff.mp hz).1
          rw [List.length_map] at this
          exact this
        obtain rfl : z = .int (ls.getD j 0) := Option.some.inj (hz.symm.trans (int_at hj))
        have er : (relab (ls.getD b 0) (ls.getD a 0) ls).take (j + 1) = (relab (ls.getD b 0) (ls.getD a 0) ls).take j ++ [if ls.getD j 0 = ls.getD b 0 then ls.getD a 0 else ls.getD j 0] := by
          rw [List.take_add_one]
          congr 1
          unfold relab
          rw [List.getElem?_map, List.getElem?_eq_getElem hj, gd_lt hj]
          rfl
        have fin : ∃ acc, Hz D = some (.lst acc) ∧ acc.length < sizeLine ∧ upd Hz D (.lst (acc ++ [V.int (if ls.getD j 0 = ls.getD b 0 then ls.getD a 0 else ls.getD j 0)])) D = some (.lst (((relab (ls.getD b 0) (ls.getD a 0) ls).take (j + 1)).map V.int)) ∧ Sm H2 (upd Hz D (.lst (acc ++ [V.int (if ls.getD j 0 = ls.getD b 0 then ls.getD a 0 else ls.getD j 0)]))) :=
          ⟨_, g1, by rw [List.length_map, List.length_take]; exact small1000 (by omega), by rw [upd_same, er, List.map_append]; rfl, fun cc o e => by rw [upd_ne (ne_of_none e hD)]; exact sz cc o e⟩
        refine ⟨rfl, _, rfl, _, rfl, rfl, _, rfl, ?_⟩
        by_cases h0 : ls.getD j 0 = ls.getD b 0
        · rw [if_pos h0] at fin
          rw [decide_eq_true (by rw [h0])]
          exact ⟨_, rfl, fin⟩
        · rw [if_neg h0] at fin
          rw [decide_eq_false (fun z => h0 (V.int.inj z))]
          exact ⟨_, rfl, fin⟩
      · obtain ⟨g1, sz⟩ := hQ
        rw [List.length_map, ← rl, List.take_length] at g1
        exact ⟨D, _, _, _, _, _, rfl, g1, hL', sx2.trans sz⟩
    · obtain ⟨lb, ls, x3, x4, x5, x6, rfl, hl, hL, sx⟩ := hI
      rw [hP.1, List.take_length] at hL
      have ll := hL.len
      refine nx_mk ?_
      refine ⟨.ref lb, rfl, lb, ls, rfl, SqL.of hl, by omega, fun sp c hsp hc hcc => ?_⟩
      have s2 := Sm.new (o := SetO w sp (fun j => decide (j ∈ ls)) c) hsp
      refine ⟨sp, _, _, rfl, upd_same, by omega, rfl, ?_⟩
      have := q _ (s1.trans (sx.trans s2))
      have e : connB n Ed = decide (V.int (c : Int) = V.int 1) := by
        refine Bool.eq_iff_iff.mpr ?_
        rw [connB_iff, decide_eq_true_iff, ← hL.conn h1, ← hcc]
        exact ⟨fun h => by rw [h]; rfl, fun h => by have := V.int.inj h; omega⟩
      rw [e] at this
      exact this
def sp_wsum (K : PySem.W.Frag) : Sp := fun vs H Q _ => ∃ (tv : V) (t : List (List Int)) (p : Addr) (ws : List V) (E : List (Nat × Nat)), vs = [tv, .ref p] ∧ TT K H tv t ∧ WT t ∧ t.length ≤ 20 ∧ SqT K H p ws ∧ Prs K H ws E ∧ (∀ e ∈ E, e ∈ ppre t.length t.length) ∧ E.length ≤ 20 ∧ ∀ H', Sm H H' → Q (.int (wsum t E)) H'
theorem ok_wsum {f fL : Addr} {fd fdL : FuncData} {k : Nat} (F : Fun K "_law_sum" "_law_sum" s_L_sum f fd) (D_L_level : Df K mg "_law_level" s_L_level fL fdL ["_law_table_here", "_law_one_here", "_law_other"]) (B : Bi mg) : FnOk P w K mg base CX0 (k + 2) f fd ["_law_table_here", "_law_pairs_here"] (sp_wsum K) := by
  have G_L_level : FnOk P w K mg base CX0 (k + 1) fL fdL ["_law_table_here", "_law_one_here", "_law_other"] (sp_level K) := ok_level D_L_level.F B
  refine F.ok sc_L_sum (fun vs H Q E h => ?_) (fun cdv A outer s H vs Q E hr h => ?_)
  · obtain ⟨tv, t, p, ws, E, rfl, _⟩ := h
    rfl
  · obtain ⟨tv, t, p, ws, Ed, rfl, hT, hW, h20, hp, hP, hin, hl, q⟩ := h
    have nd := sc_L_sum.nd
    refine ⟨_, (pss_one (ps_ret (pe_callB (cr_sum rfl) (by rfl) B.sum (by decide +kernel) (pa_cons (pe_lc (own := [("_law_one_here", 2), ("_law_other", 3)]) (g := gTup K 2 (gCons (gName 2) (gCons (gName 3) gNil))) (tt := tYes) (te := tCall (sp_level K) [] E0 (tCons (tVar 0) (tCons (tVar 2) (tCons (tVar 3) tNil)))) rfl nd (pi_tup (pv 1)) (blkOk_by (N := N_L_sum) (sc := defScope s_L_sum) (by decide +kernel))
            (fun _ _ _ _ _ => pg_tup rfl (pgs_cons (pg_name (i := 2) nd rfl (.inl rfl)) (pgs_cons (pg_name (i := 3) nd rfl (.inl rfl)) pgs_nil))) (fun _ _ _ _ _ => pts_nil) (fun _ _ _ _ _ => (pe_cl D_L_level G_L_level hr (pa_cons (pv 0) (pa_cons (pv 2) (pa_cons (pv 3) pa_nil)))))) pa_nil)))), ?_⟩
    obtain ⟨tp, rs, rfl, htp, hR⟩ := id hT
    refine ⟨.ref p, rfl, p, rfl, ⟨_, hp⟩, fun D hD => lc_tup (xs := ws) (fun m Hy => Hy D = some (.lst (((Ed.take m).map fun e => lev t e.1 e.2).map V.int)) ∧ Sm H Hy) ⟨upd_same, Sm.new hD⟩ (fun m Hy _ hQ => hQ.2.sqT hp) (fun m y Hy hy hQ => ?_) (fun Hy hQ => ?_)⟩
    · obtain ⟨g1, sy⟩ := hQ
      have hm : m < Ed.length := by rw [← hP.1]; exact (List.getElem?_eq_some_iff.mp hy).1
      obtain ⟨⟨a, b⟩, hab⟩ : ∃ ab, Ed[m]? = some ab := ⟨_, List.getElem?_eq_getElem hm⟩
      obtain ⟨pa, rfl, hpa⟩ := hP.2 m y (a, b) hy hab
      obtain ⟨ha, hlt, hb⟩ := mem_ppre.mp (hin _ (List.mem_of_getElem? hab))
      refine ⟨pa, _, rfl, sy.sqT hpa, rfl, _, _, rfl, _, _, rfl, rfl, rfl, ?_⟩
      refine ⟨.ref tp, rfl, .int (a : Int), rfl, .int (b : Int), rfl, tp, rs, t, a, b, rfl, .inr (sy.sqT htp), hR.same sy, hW, ha, hb, ?_⟩
      refine ⟨_, g1, by rw [List.length_map, List.length_map, List.length_take]; exact small1000 (by omega), ?_, fun cc o e => by rw [upd_ne (ne_of_none e hD)]; exact sy cc o e⟩
      rw [upd_same, List.take_add_one, hab, List.map_append, List.map_append]
      rfl
    · obtain ⟨g1, sy⟩ := hQ
      rw [hP.1, List.take_length] at g1
      exact ⟨D, _, rfl, SqL.of g1, q _ sy⟩
end
section
variable {P : Program} {w : World} {K : PySem.W.Frag} {mg : Str → Option Value} {base : Heap}
/-! ### the program: pairs, connected, spanning -/
def sp_con29 (K : PySem.W.Frag) : Sp := fun vs H Q _ => ∃ (tv : V) (n : Nat) (p : Addr) (ws : List V) (E : List (Nat × Nat)), vs = [tv, .ref p] ∧ (∃ tp rs, tv = .ref tp ∧ SqT K H tp rs ∧ rs.length = n) ∧ SqT K H p ws ∧ Prs K H ws E ∧ (∀ e ∈ E, e ∈ ppre n n) ∧ 1 ≤ n ∧ n ≤ 20 ∧ ∀ H', Sm H H' → Q (.bl (connB n E)) H'
/-- how many names there are: one exactly if all are equal -/
theorem one_iff29 {l ls : List Int} (nd : l.Nodup) (h : ∀ x, x ∈ l ↔ x ∈ ls) : l.length = 1 ↔ ∃ k, ls ≠ [] ∧ ∀ z ∈ ls, z = k := by
  constructor
  · intro e
    obtain ⟨k, rfl⟩ := List.length_eq_one_iff.mp e
    refine ⟨k, fun z => ?_, fun z hz => List.mem_singleton.mp ((h z).mpr hz)⟩
    have := (h k).mp List.mem_cons_self
    rw [z] at this
    cases this
  · rintro ⟨k, hne, hk⟩
    cases l with
    | nil =>
      obtain ⟨x, xs, rfl⟩ := List.exists_cons_of_ne_nil hne
      cases (h x).mpr List.mem_cons_self
    | cons a l =>
      cases l with
      | nil => rfl
      | cons b l =>
        have e1 := hk a ((h a).mp List.mem_cons_self)
        have e2 := hk b ((h b).mp (List.mem_cons_of_mem _ List.mem_cons_self))
        rw [e1, e2] at nd
        exact absurd List.mem_cons_self (List.nodup_cons.mp nd).1
set_option maxHeartbeats 8000000 in
theorem ok_con29 {f f1 f2 : Addr} {fd fd1 fd2 : FuncData} {k : Nat} (F : Fun K "connects_all" "connects_all" s_connects_all f fd) (D_own_sets : Df K mg "own_sets" s_own_sets f1 fd1 ["members"]) (D_united : Df K mg "united" s_united f2 fd2 ["names", "one", "other"]) (B : Bi mg) : FnOk P w K mg base CX0 (k + 2) f fd ["table", "pairs"] (sp_con29 K) := by
  have G_own_sets : FnOk P w K mg base CX0 (k + 1) f1 fd1 ["members"] (sp_own28 K) := ok_own28 D_own_sets.F B
  have G_united : FnOk P w K mg base CX0 (k + 1) f2 fd2 ["names", "one", "other"] (sp_uni28 K) := ok_uni28 D_united.F B
  refine F.ok sc_connects_all (fun vs H Q E h => ?_) (fun cdv A outer s H vs Q E hr h => ?_)
  · obtain ⟨tv, n, p, ws, Ed, rfl, _⟩ := h
    rfl
  · obtain ⟨tv, n, p, ws, Ed, rfl, ⟨tp, rs, rfl, htp, hn⟩, hp, hP, hin, h1, h20, q⟩ := h
    have nd := sc_connects_all.nd
    refine ⟨_, (pss_cons (ps_set (i := 2) nd rfl (.inr rfl) (pe_cl D_own_sets G_own_sets hr (pa_cons (pe_listRg rfl (by rfl) B.list (prg_1 (by rfl) B.range (pe_len B (pv 0)))) pa_nil)))
      (pss_cons (ps_for PassesOwn.never rfl (pi_tup (pv 1)) (pg_tup rfl (pgs_cons (pg_name (i := 3) nd rfl (.inl rfl)) (pgs_cons (pg_name (i := 4) nd rfl (.inl rfl)) pgs_nil)))
      (pss_one (ps_set (i := 2) nd rfl (.inr rfl) (pe_cl D_united G_united hr (pa_cons (pv 2) (pa_cons (pv 3) (pa_cons (pv 4) pa_nil)))))))
      (pss_one (ps_lock (ps_ret (pe_cmpR op_eq (pe_callB cr_lenS (by rfl) B.len PySem.boot_len (pa_cons (pe_si (own := [("item", 5)]) (g := gName 5) (tt := tYes) (te := tDGet (tVar 2) (tVar 5)) rfl (Nat.lt_of_le_of_lt (Nat.add_le_add_left (by decide : 64 ≤ 64) _) hr.units) nd (pi_keys (pv 2)) (blkOk_by (N := N_connects_all) (sc := defScope s_connects_all) (by decide +kernel))
        (fun _ _ _ _ _ => pg_name (i := 5) nd rfl (.inl rfl)) (fun _ _ _ _ _ => pts_nil) (fun _ _ _ _ _ => pe_dget (hu28 hr) (pv 2) (pv 5) (fun _ _ => rfl))) pa_nil)) pe_int (nomark _))))))), ?_⟩
    subst hn
    refine ⟨.ref tp, rfl, tp, rs, rfl, .inr htp, (rs.length : Int), rfl, RgOk.of_le (by decide) (by omega) (by decide) (by omega), fun lb hlb => ?_⟩
    rw [rg31 rs.length]
    have s1 := Sm.new (o := .lst ((rI rs.length).map V.int)) hlb
    refine ⟨lb, rs.length, rfl, SqL.of upd_same, by omega, fun H2 d0 s2 _ hd0 => ?_⟩
    have s12 := Sm.trans s1 s2
    refine nx_mk ?_
    have L0 : Lab rs.length [] (rI rs.length) := Lab.start rs.length
    refine ⟨.ref p, rfl, p, rfl, ⟨_, s12.sqT hp⟩, for_tup (xs := ws) (fun m σ Hx => ∃ d ls x3 x4, σ = [some (.ref tp), some (.ref p), some (.ref d), x3, x4, none] ∧ Hx d = some (.dK (NmD ls)) ∧ Lab rs.length (Ed.take m) ls ∧ Sm H Hx) ⟨d0, _, none, none, rfl, hd0, by rw [List.take_zero]; exact L0, s12⟩ (fun m σ Hx _ hI => ?_) (fun m y σ Hx hy hI => ?_) (fun σ Hx hI => ?_)⟩
    · obtain ⟨_, _, _, _, _, _, _, sx⟩ := hI
      exact sx.sqT hp
    · obtain ⟨d, ls, x3, x4, rfl, hd, hL, sx⟩ := hI
      have hm : m < Ed.length := by rw [← hP.1]; exact (List.getElem?_eq_some_iff.mp hy).1
      obtain ⟨⟨a, b⟩, hab⟩ : ∃ ab, Ed[m]? = some ab := ⟨_, List.getElem?_eq_getElem hm⟩
      obtain ⟨pa, rfl, hpa⟩ := hP.2 m y (a, b) hy hab
      obtain ⟨ha, hlt, hb⟩ := mem_ppre.mp (hin _ (List.mem_of_getElem? hab))
      have ll := hL.len
      refine ⟨pa, _, rfl, sx.sqT hpa, rfl, _, _, rfl, _, _, rfl, rfl, ?_⟩
      refine ⟨.ref d, rfl, .int (a : Int), rfl, .int (b : Int), rfl, d, ls, a, b, rfl, hd, by omega, by omega, by omega, fun H3 e s3 _ he => ?_⟩
      have et : Ed.take (m + 1) = Ed.take m ++ [(a, b)] := by rw [List.take_add_one, hab]; rfl
      exact ⟨e, _, _, _, rfl, he, by rw [et]; exact hL.step2 ha hb, sx.trans s3⟩
    · obtain ⟨d, ls, x3, x4, rfl, hd, hL, sx⟩ := hI
      rw [hP.1, List.take_length] at hL
      have ll := hL.len
      refine nx_mk ?_
      refine ⟨d, _, hd, trivial, fun od => ?_⟩
      have z1 : (upd Hx d (.frz od (.dK (NmD ls)))) d = some (.frz od (.dK (NmD ls))) := upd_same
      refine ⟨.ref d, rfl, d, od, rfl, .inl ⟨_, z1, fun D hDn => si_it walk_keys (fun i Hy => ∃ S c l, Hy D = some (SetO w D S c) ∧ l.Nodup ∧ l.length = c ∧ (∀ x : Int, S x = true ↔ x ∈ l) ∧ (∀ x, x ∈ l ↔ x ∈ ls.take i) ∧ Sm (upd Hx d (.frz od (.dK (NmD ls)))) Hy) ⟨fun _ => false, 0, [], upd_same, List.nodup_nil, rfl, fun x => by simp, fun x => by simp, Sm.new hDn⟩ (fun i Hy _ hQ => ?_) (fun i x Hy Hy' hi hQ hY => ?_) (fun Hy hQ => ?_)⟩⟩
      · obtain ⟨_, _, _, _, _, _, _, _, sy⟩ := hQ
        exact sy _ _ z1
      · obtain ⟨rfl, k, v, hkv, rfl⟩ := hY
        obtain ⟨S, c, l, g1, g2, g3, g4, g5, sy⟩ := hQ
        rw [nmd_len] at hi
        rw [nmd_at hi] at hkv
        obtain ⟨rfl, rfl⟩ : (Sum.inl (i : Int) : Key) = k ∧ V.int (ls.getD i 0) = v := by
          have := Option.some.inj hkv
          exact ⟨congrArg Prod.fst this, congrArg Prod.snd this⟩
        have get : DGet Hy' d (.int (i : Int)) (some (.int (ls.getD i 0))) := .inl ⟨_, Sum.inl (i : Int), .inr ⟨od, sy _ _ z1⟩, rfl, (nmd_val hi).symm⟩
        have hcl : c ≤ 20 := by
          have : l.length ≤ (ls.take i).length := (sub_len _ l g2 fun x hx => (g5 x).mp hx).1
          rw [List.length_take] at this
          omega
        refine ⟨rfl, .ref d, rfl, .int (i : Int), rfl, d, _, rfl, get, ls.getD i 0, S, c, rfl, g1, by unfold scanBound; omega, ?_⟩
        have et : ls.take (i + 1) = ls.take i ++ [ls.getD i 0] := by
          rw [List.take_add_one, List.getD_eq_getElem?_getD, List.getElem?_eq_getElem hi]
          rfl
        have sy2 : ∀ o, Sm (upd Hx d (.frz od (.dK (NmD ls)))) (upd Hy' D o) := fun o c' u e => by
          rw [upd_ne (ne_of_none e hDn)]
          exact sy c' u e
        cases hS : S (ls.getD i 0) with
        | true =>
          have hm := (g4 _).mp hS
          refine ⟨_, _, l, upd_same, g2, by rw [if_pos rfl]; exact g3, fun x => ?_, fun x => ?_, sy2 _⟩
          · rw [Bool.or_eq_true, decide_eq_true_iff, g4]
            exact ⟨fun z => z.elim id fun z => z ▸ hm, .inl⟩
          · rw [et, List.mem_append, List.mem_singleton, ← g5]
            exact ⟨.inl, fun z => z.elim id fun z => z ▸ hm⟩
        | false =>
          have hm : ls.getD i 0 ∉ l := fun z => by rw [(g4 _).mpr z] at hS; cases hS
          refine ⟨_, _, ls.getD i 0 :: l, upd_same, List.nodup_cons.mpr ⟨hm, g2⟩, by rw [if_neg Bool.false_ne_true, List.length_cons, g3], fun x => ?_, fun x => ?_, sy2 _⟩
          · rw [Bool.or_eq_true, decide_eq_true_iff, g4, List.mem_cons]
            exact ⟨fun z => z.symm, fun z => z.symm⟩
          · rw [et, List.mem_append, List.mem_singleton, ← g5, List.mem_cons]
            exact ⟨fun z => z.symm, fun z => z.symm⟩
      · obtain ⟨S, c, l, g1, g2, g3, g4, g5, sy⟩ := hQ
        rw [nmd_len, List.take_of_length_le (Nat.le_refl _)] at g5
        have hcl : c ≤ 20 := by
          have : l.length ≤ ls.length := (sub_len _ l g2 fun x hx => (g5 x).mp hx).1
          omega
        refine ⟨D, S, c, rfl, g1, by omega, rfl, sy _ _ z1, ?_⟩
        have e : decide (V.int (c : Int) = V.int 1) = connB rs.length Ed := by
          refine Bool.eq_iff_iff.mpr ?_
          rw [connB_iff, decide_eq_true_iff, ← hL.conn h1, ← one_iff29 g2 g5, g3]
          exact ⟨fun h => by have := V.int.inj h; omega, fun h => by rw [h]; rfl⟩
        rw [e]
        exact q _ (sx.trans (Sm.unlock hd sy))
end
def LenT (K : PySem.W.Frag) (H : Hp) (v : V) (n : Nat) : Prop := ∃ p vs, v = .ref p ∧ SqT K H p vs ∧ vs.length = n
section
variable {P : Program} {w : World} {K : PySem.W.Frag} {mg : Str → Option Value} {base : Heap}
/-! ### the program on values of any kind -/
def sp_wholeD (K : PySem.W.Frag) : Sp := fun vs H Q _ => ∃ (ok : Addr → Prop) (v : V) (x : PyData), vs = [v] ∧ Da K ok H v x ∧ Q (.bl (isI x && !isB x)) H
theorem ok_wholeD {f : Addr} {fd : FuncData} {k : Nat} (F : Fun K "is_whole" "is_whole" s_is_whole f fd) (B : Bi mg) : FnOk P w K mg base CX0 (k + 1) f fd ["value"] (sp_wholeD K) := by
  refine F.ok sc_is_whole (fun vs H Q E h => ?_) (fun cdv A outer s H vs Q E hr h => ?_)
  · obtain ⟨ok, v, x, rfl, _⟩ := h
    rfl
  · obtain ⟨ok, v, x, rfl, hd, q⟩ := h
    refine ⟨_, pss_one (ps_ret (pe_and (pe_callB call_isi (by rfl) B.isinstance (by decide +kernel) (pa_cons (pv 0) (pa_cons (pe_bltn (by rfl) B.int (by decide +kernel) (v := .ty "int") rfl) pa_nil)))
      (pe_one (pe_not (pe_callB call_isi (by rfl) B.isinstance (by decide +kernel) (pa_cons (pv 0) (pa_cons (pe_bltn (by rfl) B.bool (by decide +kernel) (v := .ty "bool") rfl) pa_nil))))))), ?_⟩
    refine ⟨v, rfl, v, .ty "int", .type (tyN x), _, isI x, rfl, .ty _, hd.ty, kit_ty (kt_int x), _, rfl, ?_⟩
    cases hI : isI x with
    | false =>
      rw [hI] at q
      exact q
    | true =>
      rw [hI] at q
      exact ⟨v, rfl, v, .ty "bool", .type (tyN x), _, isB x, rfl, .ty _, hd.ty, kit_ty (kt_bool x), _, rfl, q⟩
end
section
variable {P : Program} {w : World} {K : PySem.W.Frag} {mg : Str → Option Value} {base : Heap}
/-! ### the program: items, of any kind -/
def sp_itemDN (K : PySem.W.Frag) : Sp := fun vs H Q _ => ∃ (ok : Addr → Prop) (tv v : V) (n : Nat) (x : PyData), vs = [tv, v] ∧ LenT K H tv n ∧ Da K ok H v x ∧ Q (.bl (isItm n x)) H
theorem ok_itemDN {f fW : Addr} {fd fdW : FuncData} {k : Nat} (F : Fun K "is_item" "is_item" s_is_item f fd) (DW : Df K mg "is_whole" s_is_whole fW fdW ["value"]) (B : Bi mg) : FnOk P w K mg base CX0 (k + 2) f fd ["table", "value"] (sp_itemDN K) := by
  have GW : FnOk P w K mg base CX0 (k + 1) fW fdW ["value"] (sp_wholeD K) := ok_wholeD DW.F B
  refine F.ok sc_is_item (fun vs H Q E h => ?_) (fun cdv A outer s H vs Q E hr h => ?_)
  · obtain ⟨ok, tv, v, n, x, rfl, _⟩ := h
    rfl
  · obtain ⟨ok, tv, v, n, x, rfl, hT, hd, q⟩ := h
    refine ⟨_, pss_one (ps_ret (pe_and (pe_cl DW GW hr (pa_cons (pv 1) pa_nil)) (pe_one (pe_chain op_le op_lt pe_int (pv 1) (pe_len B (pv 0)))))), ?_⟩
    obtain ⟨tp, rs, rfl, htp, hrl⟩ := hT
    refine ⟨v, rfl, ok, v, x, rfl, hd, _, rfl, ?_⟩
    cases hI : isI x && !isB x with
    | false =>
      rw [isItm_int hI] at q
      exact q
    | true =>
      have h1 : isI x = true := by cases h : isI x <;> simp_all
      have h2 : isB x = false := by cases h : isB x <;> simp_all
      obtain ⟨i, rfl⟩ := isI_yes h1 h2
      cases hd
      refine ⟨.int i, rfl, _, _, rfl, rfl, _, rfl, ?_⟩
      have q' : Q (.bl (decide ((0 : Int) ≤ i) && decide (i < (n : Int)))) H := q
      by_cases z : (0 : Int) ≤ i
      · rw [decide_eq_true z] at q' ⊢
        refine ⟨.ref tp, rfl, tp, rs, rfl, .inr htp, _, _, rfl, rfl, ?_⟩
        rw [hrl]
        exact q'
      · rw [decide_eq_false z] at q' ⊢
        exact q'
end
section
variable {P : Program} {w : World} {K : PySem.W.Frag} {mg : Str → Option Value} {base : Heap}
/-! ### the program: a pair of any kind of value, a spanning tree of any kind -/
theorem isItm_pr29 {n : Nat} {a b : PyData} : isPr29 n (.tuple [a, b]) = (isItm n a && (isItm n b && (match a, b with | .int i, .int j => decide (i < j) | _, _ => false))) := by
  cases a <;> try rfl
  rename_i i
  cases b <;> try (cases isItm n (.int i) <;> rfl)
  rename_i j
  show (decide (0 ≤ i) && decide (i < j) && decide (j < (n : Int))) = ((decide (0 ≤ i) && decide (i < (n : Int))) && ((decide (0 ≤ j) && decide (j < (n : Int))) && decide (i < j)))
  refine Bool.eq_iff_iff.mpr ?_
  simp only [Bool.and_eq_true, decide_eq_true_eq]
  omega
theorem isPr_tup29 {n : Nat} {x : PyData} (h : isT x = false) : isPr29 n x = false := by
  cases x with
  | tuple ds => cases h
  | _ => rfl
theorem isPr_len29 {n : Nat} {ds : List PyData} (h : ds.length ≠ 2) : isPr29 n (.tuple ds) = false := by
  match ds, h with
  | [], _ => rfl
  | [a], _ => cases a <;> rfl
  | [a, b], h => exact absurd rfl h
  | a :: b :: c :: ds, _ => cases a <;> first | rfl | (cases b <;> rfl)
def sp_ispr29 (K : PySem.W.Frag) : Sp := fun vs H Q _ => ∃ (ok : Addr → Prop) (tv v : V) (n : Nat) (x : PyData), vs = [tv, v] ∧ LenT K H tv n ∧ Da K ok H v x ∧ ∀ H', Sm H H' → Q (.bl (isPr29 n x)) H'
theorem ok_ispr29 {f fI fW : Addr} {fd fdI fdW : FuncData} {k : Nat} (F : Fun K "is_pair" "is_pair" s_is_pair f fd) (D_is_item : Df K mg "is_item" s_is_item fI fdI ["table", "value"]) (DW : Df K mg "is_whole" s_is_whole fW fdW ["value"]) (B : Bi mg) : FnOk P w K mg base CX0 (k + 3) f fd ["table", "value"] (sp_ispr29 K) := by
  have G_is_item : FnOk P w K mg base CX0 (k + 2) fI fdI ["table", "value"] (sp_itemDN K) := ok_itemDN D_is_item.F DW B
  refine F.ok sc_is_pair (fun vs H Q E h => ?_) (fun cdv A outer s H vs Q E hr h => ?_)
  · obtain ⟨ok, tv, v, n, x, rfl, _⟩ := h
    rfl
  · obtain ⟨ok, tv, v, n, x, rfl, hT, hd, q⟩ := h
    have nd := sc_is_pair.nd
    refine ⟨_, (pss_cons (ps_if (PW.pt (pw_or (pt_not (pt_val (pe_callB call_isi (by rfl) B.isinstance (by decide +kernel) (pa_cons (pv 1) (pa_cons (pe_bltn (by rfl) B.tuple (by decide +kernel) (v := .ty "tuple") rfl) pa_nil))))) (pw_or1 (pt_cmpR op_ne (pe_len B (pv 1)) pe_int (nomark _)))))
      (pss_one (ps_ret pe_bl))
      pss_nil)
      (pss_cons (ps_asg (pv 1) (pg_tup rfl (pgs_cons (pg_name (i := 2) nd rfl (.inl rfl)) (pgs_cons (pg_name (i := 3) nd rfl (.inl rfl)) pgs_nil))))
      (pss_one (ps_ret (pe_and (pe_cl D_is_item G_is_item hr (pa_cons (pv 0) (pa_cons (pv 2) pa_nil))) (pe_and (pe_cl D_is_item G_is_item hr (pa_cons (pv 0) (pa_cons (pv 3) pa_nil))) (pe_one (pe_cmpR op_lt (pv 2) (pv 3) (nomark _))))))))), ?_⟩
    refine ⟨v, rfl, v, .ty "tuple", .type (tyN x), _, isT x, rfl, .ty _, hd.ty, kit_ty (kt_tup x), _, rfl, ?_⟩
    cases hx : isT x with
    | false =>
      have := q H (Sm.refl _)
      rw [isPr_tup29 hx] at this
      exact this
    | true =>
      obtain ⟨ds, rfl⟩ := isT_yes hx
      cases hd with
      | @tup a xs _ hs hall =>
        have hl := hall.len
        refine ⟨.ref a, rfl, a, xs, rfl, .inr hs, rfl, _, rfl, ?_⟩
        by_cases h2 : ds.length = 2
        · rw [decide_eq_true (by rw [hl, h2]; rfl)]
          refine nx_mk ?_
          clear hl
          cases hall with
          | nil => exact absurd h2 (by simp)
          | @cons va _ da _ ha hall =>
            cases hall with
            | nil => exact absurd h2 (by simp)
            | @cons vb _ db _ hb hall =>
              cases hall with
              | cons _ _ => exact absurd h2 (by simp)
              | nil =>
                refine ⟨.ref a, rfl, a, _, rfl, hs, rfl, _, _, rfl, _, _, rfl, rfl, ?_⟩
                refine nx_mk ?_
                have q1 := q H (Sm.refl _)
                rw [isItm_pr29] at q1
                refine ⟨tv, rfl, va, rfl, ok, tv, va, n, da, rfl, hT, ha, _, rfl, ?_⟩
                cases e1 : isItm n da with
                | false => rw [e1] at q1; exact q1
                | true =>
                  refine ⟨tv, rfl, vb, rfl, ok, tv, vb, n, db, rfl, hT, hb, _, rfl, ?_⟩
                  rw [e1] at q1
                  cases e2 : isItm n db with
                  | false => rw [e2] at q1; exact q1
                  | true =>
                    rw [e2] at q1
                    cases da with
                    | int i =>
                      cases db with
                      | int j =>
                        cases ha
                        cases hb
                        exact ⟨_, rfl, _, rfl, _, _, rfl, rfl, q1⟩
                      | _ => cases e2
                    | _ => cases e1
        · rw [decide_eq_false (by rw [hl]; exact fun e => h2 (by have := V.int.inj e; omega))]
          have := q H (Sm.refl _)
          rw [isPr_len29 h2] at this
          exact this
end
section
variable {P : Program} {w : World} {K : PySem.W.Frag} {mg : Str → Option Value} {base : Heap}
/-- a value that is a spanning tree, or not -/
def sp_isspan29 (K : PySem.W.Frag) : Sp := fun vs H Q _ => ∃ (ok : Addr → Prop) (tp : Addr) (rs : List V) (v : V) (x : PyData), vs = [.ref tp, v] ∧ SqT K H tp rs ∧ 1 ≤ rs.length ∧ rs.length ≤ 12 ∧ Da K ok H v x ∧ ∀ H', Sm H H' → Q (.bl (spanB29 rs.length x)) H'
set_option maxHeartbeats 8000000 in
theorem ok_isspan29 {f f1 f2 f3 f4 fI fW : Addr} {fd fd1 fd2 fd3 fd4 fdI fdW : FuncData} (F : Fun K "is_spanning" "is_spanning" s_is_spanning f fd) (D_is_pair : Df K mg "is_pair" s_is_pair f1 fd1 ["table", "value"]) (D_connects_all : Df K mg "connects_all" s_connects_all f2 fd2 ["table", "pairs"])
    (D_own_sets : Df K mg "own_sets" s_own_sets f3 fd3 ["members"]) (D_united : Df K mg "united" s_united f4 fd4 ["names", "one", "other"]) (D_is_item : Df K mg "is_item" s_is_item fI fdI ["table", "value"]) (DW : Df K mg "is_whole" s_is_whole fW fdW ["value"]) (B : Bi mg) : FnOk P w K mg base CX0 4 f fd ["table", "value"] (sp_isspan29 K) := by
  have G_is_pair : FnOk P w K mg base CX0 3 f1 fd1 ["table", "value"] (sp_ispr29 K) := ok_ispr29 (k := 0) D_is_pair.F D_is_item DW B
  have G_connects_all : FnOk P w K mg base CX0 3 f2 fd2 ["table", "pairs"] (sp_con29 K) := ok_con29 (k := 1) D_connects_all.F D_own_sets D_united B
  refine F.ok sc_is_spanning (fun vs H Q E h => ?_) (fun cdv A outer s H vs Q E hr h => ?_)
  · obtain ⟨ok, tp, rs, v, x, rfl, _⟩ := h
    rfl
  · obtain ⟨ok, tp, rs, v, x, rfl, htp, h1, h12, hd, q⟩ := h
    have nd := sc_is_spanning.nd
    refine ⟨_, (pss_cons (ps_if (PW.pt (pw_or (pt_not (pt_val (pe_callB call_isi (by rfl) B.isinstance (by decide +kernel) (pa_cons (pv 1) (pa_cons (pe_bltn (by rfl) B.tuple (by decide +kernel) (v := .ty "tuple") rfl) pa_nil))))) (pw_or1 (pt_cmpR op_ne (pe_len B (pv 1)) (pe_op op_sub (pe_len B (pv 0)) pe_int) (nomark _)))))
      (pss_one (ps_ret pe_bl))
      pss_nil)
      (pss_cons (ps_if (PW.pt (pw_or (pt_not (pt_val (pe_callB (cr_all rfl) (by rfl) B.all (by decide +kernel) (pa_cons (pe_lc (own := [("part", 2)]) (g := gName 2) (tt := tYes) (te := tCall (sp_ispr29 K) [] E0 (tCons (tVar 0) (tCons (tVar 2) tNil))) rfl nd (pi_tup (pv 1)) (blkOk_by (N := N_is_spanning) (sc := defScope s_is_spanning) (by decide +kernel))
            (fun _ _ _ _ _ => pg_name (i := 2) nd rfl (.inl rfl)) (fun _ _ _ _ _ => pts_nil) (fun _ _ _ _ _ => (pe_cl D_is_pair G_is_pair hr (pa_cons (pv 0) (pa_cons (pv 2) pa_nil))))) pa_nil)))) (pw_or1 (pt_cmpR (op_neD hr.units) (pe_callB (cr_sortedT rfl) (by rfl) B.sorted (by decide +kernel) (pa_cons (pe_callTy (cr_setP rfl hr.units) (by rfl) B.set (by decide +kernel) (pa_cons (pv 1) pa_nil)) pa_nil)) (pe_callTy call_list_of (by rfl) B.list (by decide +kernel) (pa_cons (pv 1) pa_nil)) (nomark _)))))
      (pss_one (ps_ret pe_bl))
      pss_nil)
      (pss_one (ps_ret (pe_cl D_connects_all G_connects_all hr (pa_cons (pv 0) (pa_cons (pv 1) pa_nil))))))), ?_⟩
    have q0 : spanB29 rs.length x = false → ∀ H', Sm H H' → Q (.bl false) H' := fun e H' s' => by
      have := q H' s'
      rw [e] at this
      exact this
    refine ⟨v, rfl, v, .ty "tuple", .type (tyN x), _, isT x, rfl, .ty _, hd.ty, kit_ty (kt_tup x), _, rfl, ?_⟩
    cases hx : isT x with
    | false => exact q0 (span_tup29 hx) H (Sm.refl _)
    | true =>
      obtain ⟨ds, rfl⟩ := isT_yes hx
      cases hd with
      | @tup a xs _ hs hall =>
        have hl := hall.len
        refine ⟨.ref a, rfl, a, xs, rfl, .inr hs, .ref tp, rfl, tp, rs, rfl, .inr htp, _, _, rfl, rfl, rfl, _, rfl, ?_⟩
        by_cases h2 : ds.length + 1 = rs.length
        rotate_left
        · rw [decide_eq_false (by rw [hl]; exact fun e => h2 (by have := V.int.inj e; omega))]
          exact q0 (span_len29 h2) H (Sm.refl _)
        rw [decide_eq_true (by rw [hl, show (ds.length : Int) = (rs.length : Int) - 1 by omega])]
        refine nx_mk ?_
        refine ⟨.ref a, rfl, a, rfl, ⟨_, hs⟩, fun D hD => lc_tup (xs := xs) (fun m Hy => Hy D = some (.lst (((ds.take m).map (isPr29 rs.length)).map V.bl)) ∧ Sm H Hy) ⟨upd_same, Sm.new hD⟩ (fun m Hy _ hP => hP.2.sqT hs) (fun m y Hy hy hP => ?_) (fun Hy hP => ?_)⟩
        · obtain ⟨g1, g2⟩ := hP
          obtain ⟨u, hu, du⟩ := hall.at hy
          have hm : m < ds.length := (List.getElem?_eq_some_iff.mp hu).1
          refine ⟨rfl, .ref tp, rfl, y, rfl, ok, .ref tp, y, rs.length, u, rfl, ⟨tp, rs, rfl, g2.sqT htp, rfl⟩, du.same g2, fun H3 s3 => ⟨_, s3 _ _ g1, ?_, ?_, ?_⟩⟩
          · rw [List.length_map, List.length_map, List.length_take]
            exact small1000 (by omega)
          · rw [upd_same, List.take_add_one, hu, List.map_append, List.map_append]
            rfl
          · intro c z e
            rw [upd_ne (ne_of_none e hD)]
            exact s3 _ _ (g2 c z e)
        · obtain ⟨g1, g2⟩ := hP
          rw [hl, List.take_length] at g1
          refine ⟨D, ds.map (isPr29 rs.length), rfl, SqL.of g1, _, rfl, ?_⟩
          have eb : (ds.map (isPr29 rs.length)).all id = ds.all (isPr29 rs.length) := by rw [List.all_map]; rfl
          rw [eb]
          cases hp : ds.all (isPr29 rs.length) with
          | false => exact q0 (span_pr29 hp) Hy g2
          | true =>
            obtain ⟨T, rfl, hT⟩ := allPr_ex29 hp
            have hP2 := prs_da29 (hall.same g2)
            have lT : T.length + 1 = rs.length := by
              rw [List.length_map, List.length_map] at h2
              exact h2
            refine srt_set29 (n := rs.length) rfl (g2.sqT hs) hP2 hT (by omega) (by omega) fun H3 b ys S s3 hb hS asc mem => ?_
            refine ⟨.ref a, rfl, a, xs, rfl, .inr (s3.sqT (g2.sqT hs)), fun l hl2 => ?_⟩
            have s4 := Sm.new (o := .lst xs) hl2
            refine ⟨_, _, .lst (SqL.of (s4 _ _ hb)) (dp_prs29 (hS.same s4)), .lst (SqL.of upd_same) (dp_prs29 ((hP2.same s3).same s4)), shaped_rows29 S, shaped_rows29 T, _, rfl, ?_⟩
            rw [eqv_rows29]
            have sA := (g2.trans s3).trans s4
            have eS := span_T29 lT hT asc mem
            by_cases e : S = T
            · rw [decide_eq_true e]
              rw [decide_eq_true e] at eS
              refine nx_mk ?_
              refine ⟨.ref tp, rfl, .ref a, rfl, .ref tp, rs.length, a, xs, T, rfl, ⟨tp, rs, rfl, sA.sqT htp, rfl⟩, sA.sqT hs, (hP2.same s3).same s4, hT, h1, by omega, fun H5 s5 => ?_⟩
              have := q H5 (sA.trans s5)
              rw [show spanB29 rs.length (.tuple ((T.map e2).map rowD)) = connB rs.length T from eS] at this
              exact this
            · rw [decide_eq_false e]
              rw [decide_eq_false e] at eS
              exact q0 eS _ sA
end
section
variable {P : Program} {w : World} {K : PySem.W.Frag} {mg : Str → Option Value} {base : Heap}
/-! ### a drawn order -/
abbrev nI (os : List Nat) : List V := os.map fun i : Nat => V.int (i : Int)
theorem nI_at {os : List Nat} {k : Nat} (h : k < os.length) : (nI os)[k]? = some (.int ((os.getD k 0 : Nat) : Int)) := by
  unfold nI
  rw [List.getElem?_map, List.getD_eq_getElem?_getD, List.getElem?_eq_getElem h]
  rfl
theorem erase_perm {α : Type} : ∀ (l : List α) (k : Nat) (y : α), l[k]? = some y → (l.eraseIdx k ++ [y]).Perm l
  | [], k, y, h => by simp at h
  | a :: l, 0, y, h => by
    cases Option.some.inj h
    exact List.perm_append_comm
  | a :: l, k + 1, y, h => by
    have ih := erase_perm l k y (by simpa using h)
    exact ih.cons a
theorem erase_map {α β : Type} (f : α → β) : ∀ (l : List α) (k : Nat), (l.map f).eraseIdx k = (l.eraseIdx k).map f
  | [], k => by simp
  | a :: l, 0 => by simp
  | a :: l, k + 1 => by simp [erase_map f l k]
end
section
variable {P : Program} {w : World} {K : PySem.W.Frag} {mg : Str → Option Value} {base : Heap}
/-! ### the law: shuffled items -/
def sp_shuf29 (K : PySem.W.Frag) : Sp := fun vs H Q _ => ∃ (d c r : Addr) (n cnt : Nat), vs = [.ref d, .int (cnt : Int)] ∧ Dr H d c r n ∧ n ≤ 700000 ∧ cnt ≤ 66 ∧
  ∀ (H' : Hp) (p : Addr) (os : List Nat), H p = none → H' p = some (.lst (nI os)) → os.Perm (List.range cnt) → Dr H' d c r (n + cnt) → Kp d r H H' → Q (.ref p) H'
theorem ok_shuf29 {f fN : Addr} {fd fdN : FuncData} (F : Fun K "_law_shuffled" "_law_shuffled" s_L_shuffled f fd) (DN : Df K mg "_law_next" s_L_next fN fdN ["_law_drawn", "_law_many"]) (B : Bi mg) : FnOk P w K mg base CX0 2 f fd ["_law_drawn", "_law_count_here"] (sp_shuf29 K) := by
  have GN : FnOk P w K mg base CX0 1 fN fdN ["_law_drawn", "_law_many"] sp_next := ok_next DN.F B
  refine F.ok sc_L_shuffled (fun vs H Q E h => ?_) (fun cdv A outer s H vs Q E hr h => ?_)
  · obtain ⟨d, c, r, n, cnt, rfl, _⟩ := h
    rfl
  · obtain ⟨d, c, r, n, cnt, rfl, hD, hn, h20, q⟩ := h
    have nd := sc_L_shuffled.nd
    refine ⟨_, pss_cons (ps_set (i := 2) nd rfl (.inr rfl) (pe_listRg rfl (by rfl) B.list (prg_1 (by rfl) B.range (pv 1))))
      (pss_one (ps_ret (pe_lc (own := [("_law_k", 3)]) (g := gName 3) (tt := tYes) rfl nd (pi_range1 rfl B.range (pa_cons (pv 1) pa_nil)) (blkOk_by (N := N_L_shuffled) (sc := defScope s_L_shuffled) (by decide +kernel))
        (fun _ _ _ _ _ => pg_name (i := 3) nd rfl (.inl rfl)) (fun _ _ _ _ _ => pts_nil)
        (te := tBM K "list" rPopAt (tVar 2) (tCons (tCall sp_next [] E0 (tCons (tVar 0) (tCons (tCB (fun xs H Q => ∃ p ys, xs = [.ref p] ∧ (SqL K H p ys ∨ SqT K H p ys) ∧ Q (.int ys.length) H) (tCons (tVar 2) tNil)) tNil))) tNil))
        (fun _ _ _ _ _ => pe_bm PySem.F.plainAttrs_list PySem.F.slot_list_pop PySem.F.type_list_pop mt_popAt (pv 2) (pa_cons (pe_cl DN GN hr (pa_cons (pv 0) (pa_cons (pe_len B (pv 2)) pa_nil))) pa_nil))))), ?_⟩
    refine ⟨.int (cnt : Int), rfl, _, rfl, RgOk.of_le (by decide) (by omega) (by decide) (by omega), fun re hre => ?_⟩
    rw [show rgV 0 (cnt : Int) = nI (List.range cnt) by
      unfold rgV nI
      rw [show ((cnt : Int) - 0).toNat = cnt by omega]
      refine List.map_congr_left fun i _ => ?_
      rw [Int.zero_add]]
    have nre := hD.ne hre
    have D1 := hD.new (o := .lst (nI (List.range cnt))) hre
    refine ⟨.int (cnt : Int), rfl, _, rfl, by omega, by omega, fun D hDn => lc_range (n := (cnt : Int).toNat) (fun k Hx => ∃ (left os : List Nat), Hx re = some (.lst (nI left)) ∧ Hx D = some (.lst (nI os)) ∧ (os ++ left).Perm (List.range cnt) ∧ os.length = k ∧ Dr Hx d c r (n + k) ∧ Kp d r H Hx)
      ⟨List.range cnt, [], Sm.new hDn _ _ upd_same, upd_same, .refl _, rfl, D1.new hDn, (Kp.new hre).trans (Kp.new hDn)⟩ (fun k Hx hk hP => ?_) (fun Hx hP => ?_)⟩
    · obtain ⟨left, os, h1, h2, h3, h4, h5, h6⟩ := hP
      have hlen := h3.length_eq
      rw [List.length_append, List.length_range] at hlen
      have nDn := D1.ne hDn
      have nrD : re ≠ D := ne_of_none upd_same hDn
      have hDH : H D = none := Sm.free (Sm.new hre) hDn
      refine ⟨rfl, .ref re, rfl, .inl ⟨rfl, _, SqL.of h1⟩, .ref d, rfl, .ref re, rfl, re, _, rfl, .inl (SqL.of h1), d, c, r, _, _, rfl, h5, by omega, by rw [List.length_map]; omega, by rw [List.length_map]; omega, fun H2 k2 l2 D2 kp2 => ?_⟩
      rw [List.length_map] at l2
      have hk2 : k2 < left.length := by omega
      have hre2 : H2 re = some (.lst (nI left)) := kp2 re _ h1 nre.1 nre.2.2
      have hD2 : H2 D = some (.lst (nI os)) := kp2 D _ h2 nDn.1 nDn.2.2
      refine ⟨re, _, _, k2, .int ((left.getD k2 0 : Nat) : Int), rfl, rfl, hre2, by omega, by omega, ?_, nI_at hk2, ?_⟩
      · unfold seqIndex?
        simp only [List.length_map]
        rw [if_neg (show ¬ ((k2 : Int) < 0) by omega), if_pos (by simp; omega)]
        simp
      have hD3 : (upd H2 re (.lst ((nI left).eraseIdx k2))) D = some (.lst (nI os)) := by rw [upd_ne nrD.symm]; exact hD2
      refine ⟨_, hD3, by rw [List.length_map]; exact small1000 (by omega), left.eraseIdx k2, os ++ [left.getD k2 0], ?_, ?_, ?_, by rw [List.length_append, h4]; rfl, ((D2.upd nre.1 nre.2.1 nre.2.2).upd nDn.1 nDn.2.1 nDn.2.2).mono (by omega), fun b u e n1 n2 => ?_⟩
      · rw [upd_ne nrD, upd_same]
        congr 2
        unfold nI
        exact erase_map _ _ _
      · rw [upd_same]
        unfold nI
        rw [List.map_append]
        rfl
      · have p1 := erase_perm left k2 (left.getD k2 0) (by rw [List.getD_eq_getElem?_getD, List.getElem?_eq_getElem hk2]; rfl)
        refine List.Perm.trans ?_ h3
        rw [List.append_assoc]
        exact (List.perm_append_comm.trans p1).append_left os
      · rw [upd_ne (ne_of_none e hDH), upd_ne (ne_of_none e hre)]
        exact kp2 b u (h6 b u e n1 n2) n1 n2
    · obtain ⟨left, os, h1, h2, h3, h4, h5, h6⟩ := hP
      have hlen := h3.length_eq
      rw [List.length_append, List.length_range] at hlen
      have hl0 : left = [] := List.eq_nil_of_length_eq_zero (by omega)
      subst hl0
      rw [List.append_nil] at h3
      exact q _ D os (Sm.free (Sm.new hre) hDn) h2 h3 (h5.mono (by omega)) h6
end
/-! ### sorted pairs -/
theorem perm_unmap {α β : Type} (f : α → β) : ∀ {ys zs : List β}, ys.Perm zs → ∀ M : List α, zs = M.map f → ∃ L : List α, L.Perm M ∧ ys = L.map f := by
  intro ys zs p
  induction p with
  | nil =>
    intro M e
    exact ⟨M, List.Perm.refl _, e⟩
  | @cons v l1 l2 _ ih =>
    intro M e
    cases M with
    | nil => cases e
    | cons m M =>
      obtain ⟨e1, e2⟩ := List.cons.inj e
      obtain ⟨L, h1, h2⟩ := ih M e2
      exact ⟨m :: L, h1.cons m, by rw [List.map_cons, h2, e1]⟩
  | swap v1 v2 l =>
    intro M e
    cases M with
    | nil => cases e
    | cons m1 M =>
      obtain ⟨e1, e2⟩ := List.cons.inj e
      cases M with
      | nil => cases e2
      | cons m2 M =>
        obtain ⟨e3, e4⟩ := List.cons.inj e2
        exact ⟨m2 :: m1 :: M, List.Perm.swap m1 m2 M, by rw [List.map_cons, List.map_cons, e1, e3, e4]⟩
  | trans _ _ ih1 ih2 =>
    intro M e
    obtain ⟨L2', h1, h2⟩ := ih2 M e
    obtain ⟨L, h3, h4⟩ := ih1 L2' h2
    exact ⟨L, h3.trans h1, h4⟩
theorem alike_row (p q : List Int) : PySem.W.alike (rowD p) (rowD q) = true := by
  unfold rowD
  simp only [PySem.W.alike]
  exact alike_ints _ _
theorem dep_row (p : List Int) : (rowD p).depth ≤ 60 := by
  have h := dep_ints p
  unfold rowD
  simp only [PyData.depth]
  omega
/-- sorted of a list of values that are told by data -/
theorem sort_gen29 {α : Type} {K : PySem.W.Frag} {H : Hp} {xs : List V} {js : List α} (T : V → α → Prop) (D : α → PyData) (hl : xs.length = js.length) (hT : ∀ (i : Nat) v j, xs[i]? = some v → js[i]? = some j → T v j)
    (hd : ∀ v j, T v j → Dp K H v (D j)) (al : ∀ p q, PySem.W.alike (D p) (D q) = true) (tp : ∀ j ∈ js, ∃ x r, D j = .tuple (x :: r)) (dep : ∀ j, (D j).depth ≤ 60) :
    ∃ L : List (V × PyData), L.map (·.1) = xs ∧ (∀ p ∈ L, Dp K H p.1 p.2) ∧ PySem.W.AllAlike (L.map (·.2)) ∧ PySem.W.Sortable (L.map (·.2)) ∧ (∀ p ∈ L, p.2.depth ≤ 60) ∧
      ∀ L' : List (V × PyData), L'.Perm L → L'.Pairwise (fun q r => PySem.W.dataLt r.2 q.2 = false) → ∃ ks : List α, ks.Perm js ∧ (ks.Pairwise fun q r => PySem.W.dataLt (D r) (D q) = false) ∧ (L'.map (·.1)).length = ks.length ∧ ∀ (i : Nat) v j, (L'.map (·.1))[i]? = some v → ks[i]? = some j → T v j := by
  have el : (xs.zip js).map (·.1) = xs := List.map_fst_zip (by omega)
  have er : (xs.zip js).map (·.2) = js := List.map_snd_zip (by omega)
  have inz : ∀ p ∈ xs.zip js, T p.1 p.2 ∧ p.2 ∈ js := fun p hp => by
    obtain ⟨i, hi, e⟩ := List.getElem_of_mem hp
    rw [List.length_zip] at hi
    rw [List.getElem_zip] at e
    rw [← e]
    exact ⟨hT i _ _ (List.getElem?_eq_getElem (by omega)) (List.getElem?_eq_getElem (by omega)), List.getElem_mem _⟩
  refine ⟨(xs.zip js).map fun p => (p.1, D p.2), by rw [List.map_map]; exact el, fun p hp => ?_, fun d hd d' hd' => ?_, .inl fun d hd => ?_, fun p hp => ?_, fun L' pm srt => ?_⟩
  · obtain ⟨z, hz, rfl⟩ := List.mem_map.mp hp
    exact hd _ _ (inz z hz).1
  · rw [List.map_map] at hd hd'
    obtain ⟨z, _, rfl⟩ := List.mem_map.mp hd
    obtain ⟨z', _, rfl⟩ := List.mem_map.mp hd'
    exact al _ _
  · rw [List.map_map] at hd
    obtain ⟨z, hz, rfl⟩ := List.mem_map.mp hd
    exact tp _ (inz z hz).2
  · obtain ⟨z, hz, rfl⟩ := List.mem_map.mp hp
    exact dep _
  · obtain ⟨L0, pL, rfl⟩ := perm_unmap (fun p : V × α => (p.1, D p.2)) pm (xs.zip js) rfl
    have pj : (L0.map (·.2)).Perm js := by
      rw [← er]
      exact pL.map _
    have e1 : (L0.map fun p : V × α => (p.1, D p.2)).map (·.1) = L0.map (·.1) := by rw [List.map_map]; rfl
    rw [e1]
    refine ⟨L0.map (·.2), pj, List.pairwise_map.mpr (List.pairwise_map.mp srt), by rw [List.length_map, List.length_map], fun i v j hv hj => ?_⟩
    rw [List.getElem?_map] at hv hj
    cases ez : L0[i]? with
    | none => rw [ez] at hv; cases hv
    | some z =>
      rw [ez] at hv hj
      cases hv
      cases hj
      exact (inz z (pL.mem_iff.mp (List.mem_of_getElem? ez))).1
theorem lt_pair29 (e f : Nat × Nat) : PySem.W.dataLt (rowD (e2 e)) (rowD (e2 f)) = true ↔ Plt e f := by
  have h := PySem.W.dataLt_ii (e.1 : Int) (e.2 : Int) (f.1 : Int) (f.2 : Int)
  rw [show PySem.W.dataLt (rowD (e2 e)) (rowD (e2 f)) = _ from h, decide_eq_true_iff]
  unfold Plt
  omega
theorem span_sort29 {n : Nat} {T S : List (Nat × Nat)} (nd : T.Nodup) (mem : ∀ e ∈ T, e ∈ ppre n n) (len : T.length + 1 = n) (con : Conn n T) (p : S.Perm T) (srt : S.Pairwise fun x y => ¬ Plt y x) : Span n S where
  asc := (srt.and (p.symm.nodup nd)).imp fun {x y} z => by
    obtain ⟨z1, z2⟩ := z
    unfold Plt at z1 ⊢
    have : ¬ (x.1 = y.1 ∧ x.2 = y.2) := fun h => z2 (Prod.ext h.1 h.2)
    omega
  sub := fun e he => mem e (p.mem_iff.mp he)
  len := by rw [p.length_eq]; exact len
  con := fun i j hi hj => (con i j hi hj).mono fun e he => p.mem_iff.mpr he
theorem srtP29 {K : PySem.W.Frag} {H : Hp} {xs : List V} {E : List (Nat × Nat)} (hP : Prs K H xs E) : ∃ L : List (V × PyData), L.map (·.1) = xs ∧ (∀ p ∈ L, Dp K H p.1 p.2) ∧ PySem.W.AllAlike (L.map (·.2)) ∧ PySem.W.Sortable (L.map (·.2)) ∧ (∀ p ∈ L, p.2.depth ≤ 60) ∧
    ∀ L' : List (V × PyData), L'.Perm L → L'.Pairwise (fun q r => PySem.W.dataLt r.2 q.2 = false) → ∃ S, S.Perm E ∧ (S.Pairwise fun x y => ¬ Plt y x) ∧ Prs K H (L'.map (·.1)) S := by
  obtain ⟨L, h1, h2, h3, h4, h5, h6⟩ := sort_gen29 (K := K) (H := H) (fun v e => ∃ a, v = .ref a ∧ SqT K H a [.int ((e : Nat × Nat).1 : Int), .int (e.2 : Int)]) (fun e => rowD (e2 e)) hP.1 hP.2 (fun v j h => by
    obtain ⟨a, rfl, ha⟩ := h
    exact dp_tup ha) (fun p q => alike_row _ _) (fun j _ => ⟨_, _, rfl⟩) (fun j => dep_row _)
  refine ⟨L, h1, h2, h3, h4, h5, fun L' pm sr => ?_⟩
  obtain ⟨S, s1, s2, s3, s4⟩ := h6 L' pm sr
  refine ⟨S, s1, s2.imp fun {x y} z q => ?_, s3, s4⟩
  rw [(lt_pair29 y x).mpr q] at z
  cases z
theorem srt_callT29 {K : PySem.W.Frag} {H : Hp} {o : Addr} {xs : List V} {E : List (Nat × Nat)} {Q : VK} (ho : SqT K H o xs) (hP : Prs K H xs E)
    (q : ∀ (b : Addr) (ys : List V) (S : List (Nat × Nat)), H b = none → S.Perm E → (S.Pairwise fun x y => ¬ Plt y x) → Prs K H ys S → Q (.ref b) (upd H b (.lst ys))) : rSortTD K [.ref o] H Q := by
  obtain ⟨L, h1, h2, h3, h4, h5, h6⟩ := srtP29 hP
  refine ⟨o, L, rfl, by rw [h1]; exact ho, h2, h3, h4, h5, fun L' b pm sr hb => ?_⟩
  obtain ⟨S, s1, s2, s3⟩ := h6 L' pm sr
  exact q b _ S hb s1 s2 s3
/-! ### trees that grow -/
/-- the items come together pair by pair -/
structure Fo29 (n : Nat) (E : List (Nat × Nat)) : Prop where
  nd : E.Nodup
  mem : ∀ e ∈ E, e ∈ ppre n n
  rep : ∃ R : List Nat, R.Nodup ∧ R.length + E.length = n ∧ (∀ i, i < n → ∃ r ∈ R, Lk E r i) ∧ ∀ r ∈ R, r < n
theorem Fo29.nil (n : Nat) : Fo29 n [] where
  nd := List.nodup_nil
  mem := fun e h => by cases h
  rep := ⟨List.range n, List.nodup_range, by rw [List.length_range]; rfl, fun i hi => ⟨i, List.mem_range.mpr hi, .refl⟩, fun r h => List.mem_range.mp h⟩
theorem Fo29.add {n : Nat} {E : List (Nat × Nat)} (h : Fo29 n E) {a b : Nat} (hab : a < b) (hb : b < n) (no : ¬ Lk E a b) : Fo29 n (E ++ [(a, b)]) where
  nd := by
    refine List.nodup_append.mpr ⟨h.nd, List.pairwise_singleton _ _, fun x hx y hy e => ?_⟩
    cases List.mem_singleton.mp hy
    subst e
    exact no (.edge hx)
  mem := fun e he => by
    rcases List.mem_append.mp he with he | he
    · exact h.mem e he
    · cases List.mem_singleton.mp he
      exact mem_ppre.mpr ⟨by omega, hab, hb⟩
  rep := by
    obtain ⟨R, nd, len, cov, lt⟩ := h.rep
    obtain ⟨ra, ra1, ra2⟩ := cov a (by omega)
    obtain ⟨rb, rb1, rb2⟩ := cov b hb
    have ne : ra ≠ rb := fun e => no ((ra2.symm).trans (e ▸ rb2))
    have up : ∀ {i j}, Lk E i j → Lk (E ++ [(a, b)]) i j := fun z => z.mono fun e he => List.mem_append_left _ he
    have eab : Lk (E ++ [(a, b)]) a b := .edge (List.mem_append_right _ List.mem_cons_self)
    refine ⟨R.erase rb, nd.erase rb, ?_, fun i hi => ?_, fun r hr => lt r (List.mem_of_mem_erase hr)⟩
    · rw [List.length_erase_of_mem rb1, List.length_append]
      have := List.length_pos_of_mem rb1
      show R.length - 1 + (E.length + 1) = n
      omega
    · obtain ⟨r, r1, r2⟩ := cov i hi
      by_cases z : r = rb
      · subst z
        exact ⟨ra, (List.mem_erase_of_ne ne).mpr ra1, (up ra2).trans (eab.trans ((up rb2.symm).trans (up r2)))⟩
      · exact ⟨r, (List.mem_erase_of_ne z).mpr r1, up r2⟩
theorem Fo29.len {n : Nat} {E : List (Nat × Nat)} (h : Fo29 n E) (h1 : 1 ≤ n) (c : Conn n E) : E.length + 1 = n := by
  obtain ⟨R, nd, len, cov, lt⟩ := h.rep
  obtain ⟨r, r1, _⟩ := cov 0 (by omega)
  have := List.length_pos_of_mem r1
  have := conn_count c
  omega
theorem Fo29.few {n : Nat} {E : List (Nat × Nat)} (h : Fo29 n E) : E.length ≤ n := by
  obtain ⟨R, nd, len, _⟩ := h.rep
  omega
theorem Fo29.span {n : Nat} {E S : List (Nat × Nat)} (h : Fo29 n E) (h1 : 1 ≤ n) (c : Conn n E) (p : S.Perm E) (srt : S.Pairwise fun x y => ¬ Plt y x) : Span n S :=
  span_sort29 h.nd h.mem (h.len h1 c) c p srt
/-- a tree grown along a list of items -/
structure Gw29 (n : Nat) (os : List Nat) (k : Nat) (E : List (Nat × Nat)) : Prop where
  fo : Fo29 n E
  ins : ∀ a b, Ed E a b → a ∈ os.take k ∧ b ∈ os.take k
  con : ∀ a ∈ os.take k, ∀ b ∈ os.take k, Lk E a b
theorem Gw29.start (n : Nat) (os : List Nat) : Gw29 n os 1 [] where
  fo := .nil n
  ins := fun a b h => by rcases h with h | h <;> cases h
  con := fun a ha b hb => by
    cases os with
    | nil => cases ha
    | cons x xs =>
      have ha : a ∈ [x] := ha
      have hb : b ∈ [x] := hb
      cases List.mem_singleton.mp ha
      cases List.mem_singleton.mp hb
      exact .refl
theorem Gw29.step {n : Nat} {os : List Nat} {k : Nat} {E : List (Nat × Nat)} (h : Gw29 n os k E) (nd : os.Nodup) (lt : ∀ x ∈ os, x < n) {u v : Nat} (hv : os[k]? = some v) (hu : u ∈ os.take k) : Gw29 n os (k + 1) (E ++ [(min u v, max u v)]) := by
  have etk : os.take (k + 1) = os.take k ++ [v] := by rw [List.take_add_one, hv]; rfl
  have vn : v ∉ os.take k := fun z => by
    have := List.nodup_append.mp (etk ▸ (List.take_sublist (k + 1) os).nodup nd)
    exact this.2.2 v z v List.mem_cons_self rfl
  have une : u ≠ v := fun z => vn (z ▸ hu)
  have hun : u < n := lt u (List.mem_of_mem_take hu)
  have hvn : v < n := lt v (List.mem_of_getElem? hv)
  have no : ¬ Lk E u v := fun z => by
    obtain ⟨x, y, hx, hy, r, _⟩ := z.cross (S := fun q => q ≠ v) une (fun z => z rfl)
    have hy : y = v := Classical.not_not.mp hy
    subst hy
    exact vn (h.ins _ _ r).2
  have no2 : ¬ Lk E (min u v) (max u v) := by
    rcases Nat.le_total u v with z | z
    · rw [Nat.min_eq_left z, Nat.max_eq_right z]; exact no
    · rw [Nat.min_eq_right z, Nat.max_eq_left z]; exact fun q => no q.symm
  have up : ∀ {i j}, Lk E i j → Lk (E ++ [(min u v, max u v)]) i j := fun z => z.mono fun e he => List.mem_append_left _ he
  have euv : Lk (E ++ [(min u v, max u v)]) u v := by
    have e : Lk (E ++ [(min u v, max u v)]) (min u v) (max u v) := .edge (List.mem_append_right _ List.mem_cons_self)
    rcases Nat.le_total u v with z | z
    · rw [Nat.min_eq_left z, Nat.max_eq_right z] at e ⊢; exact e
    · rw [Nat.min_eq_right z, Nat.max_eq_left z] at e ⊢; exact e.symm
  have u1 : u ∈ os.take (k + 1) := by rw [etk]; exact List.mem_append_left _ hu
  have v1 : v ∈ os.take (k + 1) := by rw [etk]; exact List.mem_append_right _ List.mem_cons_self
  have mm : min u v ∈ os.take (k + 1) ∧ max u v ∈ os.take (k + 1) := by
    rcases Nat.le_total u v with z | z
    · rw [Nat.min_eq_left z, Nat.max_eq_right z]; exact ⟨u1, v1⟩
    · rw [Nat.min_eq_right z, Nat.max_eq_left z]; exact ⟨v1, u1⟩
  have sub : ∀ x ∈ os.take k, x ∈ os.take (k + 1) := fun x hx => by rw [etk]; exact List.mem_append_left _ hx
  refine ⟨h.fo.add (by omega) (by omega) no2, fun a b r => ?_, fun a ha b hb => ?_⟩
  · rcases r with r | r
    · rcases List.mem_append.mp r with r | r
      · exact ⟨sub _ (h.ins a b (.inl r)).1, sub _ (h.ins a b (.inl r)).2⟩
      · cases List.mem_singleton.mp r
        exact mm
    · rcases List.mem_append.mp r with r | r
      · exact ⟨sub _ (h.ins a b (.inr r)).1, sub _ (h.ins a b (.inr r)).2⟩
      · cases List.mem_singleton.mp r
        exact mm.symm
  · have tou : ∀ x ∈ os.take (k + 1), Lk (E ++ [(min u v, max u v)]) x u := fun x hx => by
      rw [etk] at hx
      rcases List.mem_append.mp hx with hx | hx
      · exact up (h.con x hx u hu)
      · cases List.mem_singleton.mp hx
        exact euv.symm
    exact (tou a ha).trans (tou b hb).symm
theorem Gw29.conn {n : Nat} {os : List Nat} {E : List (Nat × Nat)} (h : Gw29 n os n E) (pm : os.Perm (List.range n)) : Conn n E := fun i j hi hj => by
  have e : os.take n = os := List.take_of_length_le (by rw [pm.length_eq, List.length_range]; exact Nat.le_refl _)
  have m : ∀ x, x < n → x ∈ os.take n := fun x hx => by
    rw [e]
    exact pm.mem_iff.mpr (List.mem_range.mpr hx)
  exact h.con i (m i hi) j (m j hj)
/-! ### heights along a spanning tree -/
theorem wk_fw29 {f : Nat → Nat → Int} {n : Nat} (nn : ∀ i j, i < n → j < n → 0 ≤ f i j) (h0 : ∀ i, f i i = 0) {h : Int} (hh : 0 ≤ h) {i j : Nat} (hi : i < n) (w : Wk f n h i j) : fw f n i j ≤ h := by
  have k : ∀ a b, a < n → b < n → fw f n a b ≤ f a b := fun a b _ _ => fw_le _ _ _
  induction w with
  | refl => rw [fw_diag nn h0 n i (Nat.le_refl _) hi]; exact hh
  | @step a b w ha hb e ih =>
    have t := fw_tri nn h0 n (Nat.le_refl _) i b a hi hb ha
    have := k a b ha hb
    omega
open Classical in
/-- the levels of a tree's pairs; higher than all levels elsewhere -/
noncomputable def gT29 (t : List (List Int)) (T : List (Nat × Nat)) (i j : Nat) : Int := if i = j then 0 else if Ed T i j then lev t i j else 1000000000001
theorem gT_self29 (t : List (List Int)) (T : List (Nat × Nat)) (i : Nat) : gT29 t T i i = 0 := if_pos rfl
theorem gT_ed29 {t : List (List Int)} {T : List (Nat × Nat)} {i j : Nat} (h : i ≠ j) (e : Ed T i j) : gT29 t T i j = lev t i j := by
  unfold gT29
  rw [if_neg h, if_pos e]
theorem gT_no29 {t : List (List Int)} {T : List (Nat × Nat)} {i j : Nat} (h : i ≠ j) (e : ¬ Ed T i j) : gT29 t T i j = 1000000000001 := by
  unfold gT29
  rw [if_neg h, if_neg e]
theorem gT_sym29 (t : List (List Int)) (T : List (Nat × Nat)) (i j : Nat) : gT29 t T i j = gT29 t T j i := by
  by_cases h : i = j
  · rw [h]
  · by_cases e : Ed T i j
    · rw [gT_ed29 h e, gT_ed29 (fun z => h z.symm) (Ed.symm _ _ e), lev_comm]
    · rw [gT_no29 h e, gT_no29 (fun z => h z.symm) (fun z => e (Ed.symm _ _ z))]
section
variable {t : List (List Int)} {T : List (Nat × Nat)} (hW : WT t) (hT : Span t.length T)
include hW hT
theorem ed_lt29 {a b : Nat} (e : Ed T a b) : a < t.length ∧ b < t.length ∧ a ≠ b := by
  rcases e with e | e
  · obtain ⟨h1, h2⟩ := hT.mem e
    exact ⟨by omega, by omega, by omega⟩
  · obtain ⟨h1, h2⟩ := hT.mem e
    exact ⟨by omega, by omega, by omega⟩
theorem gT_nn29 : ∀ i j, i < t.length → j < t.length → 0 ≤ gT29 t T i j := fun i j hi hj => by
  by_cases h : i = j
  · rw [h, gT_self29]
    exact Int.le_refl 0
  · by_cases e : Ed T i j
    · rw [gT_ed29 h e]
      exact lev_nn hW hi hj
    · rw [gT_no29 h e]
      decide
/-- the height of the way along the tree -/
noncomputable def tH29 (t : List (List Int)) (T : List (Nat × Nat)) (i j : Nat) : Int := fw (gT29 t T) t.length i j
omit hW hT in
theorem tH_sym29 (i j : Nat) : tH29 t T i j = tH29 t T j i := fw_sym (gT_sym29 t T) _ _ _
theorem tH_self29 {i : Nat} (hi : i < t.length) : tH29 t T i i = 0 := fw_diag (gT_nn29 hW hT) (gT_self29 t T) _ _ (Nat.le_refl _) hi
theorem tH_le29 {i j : Nat} (hi : i < t.length) (hj : j < t.length) : tH29 t T i j ≤ 1000000000000 := by
  have w : Wk (gT29 t T) t.length 1000000000000 i j := by
    have := hT.con i j hi hj
    induction this with
    | refl => exact .refl
    | @step a b _ r ih =>
      obtain ⟨h1, h2, h3⟩ := ed_lt29 hW hT r
      refine (ih h1).step h1 h2 ?_
      rw [gT_ed29 h3 r]
      exact (hW.lev h1 h2 h3).2
  exact wk_fw29 (gT_nn29 hW hT) (gT_self29 t T) (by decide) hi w
theorem tH_pos29 {i j : Nat} (hi : i < t.length) (hj : j < t.length) (hij : i ≠ j) : 1 ≤ tH29 t T i j := by
  have w : Wk (gT29 t T) t.length (tH29 t T i j) i j := fw_walk _ i j (Nat.le_refl _) hi hj
  have : ∀ {h : Int} {k : Nat}, Wk (gT29 t T) t.length h i k → k ≠ i → 1 ≤ h := by
    intro h k w
    induction w with
    | refl => exact fun z => absurd rfl z
    | @step a b w ha hb e ih =>
      intro z
      by_cases ha0 : a = i
      · subst ha0
        by_cases e1 : Ed T a b
        · rw [gT_ed29 (fun q => z q.symm) e1] at e
          have := (hW.lev ha hb (fun q => z q.symm)).1
          omega
        · rw [gT_no29 (fun q => z q.symm) e1] at e
          omega
      · exact ih ha0
  exact this w (fun z => hij z.symm)
/-- a low walk goes along the tree -/
theorem low_walk29 {h : Int} (hh : h ≤ 1000000000000) {i j : Nat} (w : Wk (gT29 t T) t.length h i j) : Pw (fun a b => Ed T a b ∧ lev t a b ≤ h) i j := by
  induction w with
  | refl => exact .refl
  | @step a b w ha hb e ih =>
    by_cases hab : a = b
    · subst hab
      exact ih
    · by_cases e1 : Ed T a b
      · rw [gT_ed29 hab e1] at e
        exact ih.step ⟨e1, e⟩
      · rw [gT_no29 hab e1] at e
        omega
theorem walk_low29 {h : Int} {i j : Nat} (w : Pw (fun a b => Ed T a b ∧ lev t a b ≤ h) i j) : Wk (gT29 t T) t.length h i j := by
  induction w with
  | refl => exact .refl
  | @step a b w r ih =>
    obtain ⟨h1, h2, h3⟩ := ed_lt29 hW hT r.1
    exact ih.step h1 h2 (by rw [gT_ed29 h3 r.1]; exact r.2)
/-- one pair further along the tree -/
theorem tH_step29 {s x y : Nat} (hs : s < t.length) (e : Ed T x y) (S : Nat → Prop) (hy : ¬ S y) (hx : Pw (fun a b => Ed T a b ∧ S a ∧ S b) s x) : tH29 t T s y = max (tH29 t T s x) (lev t x y) := by
  obtain ⟨hx1, hy1, hxy⟩ := ed_lt29 hW hT e
  -- the pair as it stands in the tree
  obtain ⟨a, b, he, hab⟩ : ∃ a b, (a, b) ∈ T ∧ ((a = x ∧ b = y) ∨ (a = y ∧ b = x)) := by
    rcases e with e | e
    · exact ⟨x, y, e, .inl ⟨rfl, rfl⟩⟩
    · exact ⟨y, x, e, .inr ⟨rfl, rfl⟩⟩
  have cut : ¬ Lk (T.erase (a, b)) x y := by
    have c := hT.cut he
    rcases hab with ⟨rfl, rfl⟩ | ⟨rfl, rfl⟩
    · exact c
    · exact fun z => c z.symm
  have off : ∀ u v, Ed T u v → ¬ ((u = x ∧ v = y) ∨ (u = y ∧ v = x)) → Ed (T.erase (a, b)) u v := fun u v h no => by
    have ne : ∀ p : Nat × Nat, p ∈ T → p ≠ (a, b) → p ∈ T.erase (a, b) := fun p hp z => (List.mem_erase_of_ne z).mpr hp
    rcases h with h | h
    · exact .inl (ne _ h fun z => no (by
        obtain ⟨z1, z2⟩ := Prod.ext_iff.mp z
        simp only at z1 z2
        rcases hab with ⟨h1, h2⟩ | ⟨h1, h2⟩
        · exact .inl ⟨z1.trans h1, z2.trans h2⟩
        · exact .inr ⟨z1.trans h1, z2.trans h2⟩))
    · exact .inr (ne _ h fun z => no (by
        obtain ⟨z1, z2⟩ := Prod.ext_iff.mp z
        simp only at z1 z2
        rcases hab with ⟨h1, h2⟩ | ⟨h1, h2⟩
        · exact .inr ⟨z2.trans h2, z1.trans h1⟩
        · exact .inl ⟨z2.trans h2, z1.trans h1⟩))
  have sx : Lk (T.erase (a, b)) s x := hx.mono fun u v r => off u v r.1 fun z => by
    rcases z with ⟨_, z⟩ | ⟨z, _⟩
    · exact hy (z ▸ r.2.2)
    · exact hy (z ▸ r.2.1)
  have ny : ¬ Lk (T.erase (a, b)) s y := fun z => cut (sx.symm.trans z)
  have le1 : tH29 t T s y ≤ max (tH29 t T s x) (lev t x y) := by
    have t1 := fw_tri (gT_nn29 hW hT) (gT_self29 t T) t.length (Nat.le_refl _) s y x hs hy1 hx1
    have t2 : fw (gT29 t T) t.length x y ≤ gT29 t T x y := fw_le _ _ _
    rw [gT_ed29 hxy e] at t2
    show fw (gT29 t T) t.length s y ≤ max (fw (gT29 t T) t.length s x) (lev t x y)
    omega
  have w : Wk (gT29 t T) t.length (tH29 t T s y) s y := fw_walk _ s y (Nat.le_refl _) hs hy1
  have p := low_walk29 hW hT (tH_le29 hW hT hs hy1) w
  obtain ⟨u, v, hu, hv, r, pu⟩ := p.cross (S := Lk (T.erase (a, b)) s) .refl ny
  have hit : (u = x ∧ v = y) ∨ (u = y ∧ v = x) := Classical.byContradiction fun no => hv (hu.trans (Pw.refl.step (off u v r.1 no)))
  have hux : u = x ∧ v = y := by
    rcases hit with z | z
    · exact z
    · exact absurd (z.1 ▸ hu) ny
  obtain ⟨rfl, rfl⟩ := hux
  have le2 : tH29 t T s u ≤ tH29 t T s v := wk_fw29 (gT_nn29 hW hT) (gT_self29 t T) (by
    by_cases z : s = v
    · subst z
      rw [tH_self29 hW hT hs]
      exact Int.le_refl 0
    · exact Int.le_trans (by decide) (tH_pos29 hW hT hs hy1 z)) hs (walk_low29 hW hT pu)
  have := r.2
  omega
/-- the table of these heights -/
noncomputable def TL29 (t : List (List Int)) (T : List (Nat × Nat)) : List (List Int) := tri (tH29 t T) t.length
omit hW hT in
theorem TL_len29 : (TL29 t T).length = t.length := tri_len _ _
theorem TL_wt29 : WT (TL29 t T) := tri_wt fun i j hi hj => ⟨tH_pos29 hW hT hi (by omega) (by omega), tH_le29 hW hT hi (by omega)⟩
end
/-! ### heights along a tree, joining levels and sums -/
section
variable {t : List (List Int)} {T : List (Nat × Nat)} (hW : WT t) (hT : Span t.length T)
include hW hT
theorem tH_tri33 {i j k : Nat} (hi : i < t.length) (hj : j < t.length) (hk : k < t.length) : tH29 t T i k ≤ max (tH29 t T i j) (tH29 t T j k) := fw_tri (gT_nn29 hW hT) (gT_self29 t T) t.length (Nat.le_refl _) i k j hi hk hj
theorem tH_nn33 {i j : Nat} (hi : i < t.length) (hj : j < t.length) : 0 ≤ tH29 t T i j := by
  by_cases h : i = j
  · subst h
    rw [tH_self29 hW hT hi]
    exact Int.le_refl 0
  · exact Int.le_trans (by decide) (tH_pos29 hW hT hi hj h)
theorem TL_lev33 {i j : Nat} (hi : i < t.length) (hj : j < t.length) : lev (TL29 t T) i j = tH29 t T i j := tri_lev_sym (fun i j _ _ => tH_sym29 i j) (fun i hi => tH_self29 hW hT hi) hi hj
theorem TL_ultra33 : Ultra (TL29 t T) := fun i j k hi hj hk => by
  rw [TL_len29] at hi hj hk
  rw [TL_lev33 hW hT hi hk, TL_lev33 hW hT hi hj, TL_lev33 hW hT hj hk]
  exact tH_tri33 hW hT hi hj hk
theorem pw_wk33 {h : Int} {i j : Nat} (p : Pw (fun a b => Ed T a b ∧ lev t a b ≤ h) i j) : Wk (lev t) t.length h i j := by
  induction p with
  | refl => exact .refl
  | @step a b _ r ih =>
    obtain ⟨h1, h2, _⟩ := ed_lt29 hW hT r.1
    exact ih.step h1 h2 r.2
theorem jn_le_tH33 {i j : Nat} (hi : i < t.length) (hj : j < t.length) : jn t i j ≤ tH29 t T i j := by
  have w : Wk (gT29 t T) t.length (tH29 t T i j) i j := fw_walk _ i j (Nat.le_refl _) hi hj
  exact wk_fw29 (lev_nn' hW) (lev_self t) (tH_nn33 hW hT hi hj) hi (pw_wk33 hW hT (low_walk29 hW hT (tH_le29 hW hT hi hj) w))
theorem tH_pw33 {h : Int} (hh : 0 ≤ h) {i j : Nat} (hi : i < t.length) (p : Pw (fun a b => Ed T a b ∧ lev t a b ≤ h) i j) : tH29 t T i j ≤ h := wk_fw29 (gT_nn29 hW hT) (gT_self29 t T) hh hi (walk_low29 hW hT p)
theorem tH_edge33 {a b : Nat} (e : Ed T a b) : tH29 t T a b = lev t a b := by
  obtain ⟨h1, h2, h3⟩ := ed_lt29 hW hT e
  have s := tH_step29 hW hT h1 e (fun v => v ≠ b) (fun z => z rfl) .refl
  rw [tH_self29 hW hT h1] at s
  have := (hW.lev h1 h2 h3).1
  omega
theorem least_tH33 (hL : Least t T) {i j : Nat} (hi : i < t.length) (hj : j < t.length) : tH29 t T i j ≤ lev t i j := by
  have key : ∀ a b, a < b → b < t.length → tH29 t T a b ≤ lev t a b := fun a b hab hb => by
    have hl := hW.lev (show a < t.length by omega) hb (by omega)
    by_cases e : (a, b) ∈ T
    · exact Int.le_of_eq (tH_edge33 hW hT (.inl e))
    · refine tH_pw33 hW hT (by have := hl.1; omega) (by omega) ?_
      have l : Lk (T.filter fun f => decide (lev t f.1 f.2 ≤ lev t a b)) a b := Classical.byContradiction fun no => by
        obtain ⟨f, hf, lf, S, hS, pS⟩ := hT.bring hab hb e _ no
        have w1 := hL.le S hS
        rw [wsum_perm pS, wsum_swap hf] at w1
        have := of_decide_eq_false lf
        have e2 : lev t (a, b).1 (a, b).2 = lev t a b := rfl
        omega
      refine Pw.mono l fun x y r => ?_
      rcases r with r | r
      · obtain ⟨r1, r2⟩ := List.mem_filter.mp r
        exact ⟨.inl r1, of_decide_eq_true r2⟩
      · obtain ⟨r1, r2⟩ := List.mem_filter.mp r
        exact ⟨.inr r1, by rw [lev_comm]; exact of_decide_eq_true r2⟩
  by_cases h : i = j
  · subst h
    rw [tH_self29 hW hT hi, lev_self]
    exact Int.le_refl 0
  · rcases Nat.lt_or_gt_of_ne h with z | z
    · exact key i j z hj
    · rw [tH_sym29, lev_comm]
      exact key j i z hi
theorem least_jn33 (hL : Least t T) {i j : Nat} (hi : i < t.length) (hj : j < t.length) : tH29 t T i j = jn t i j := by
  have a := le_jn hW (U := tH29 t T) (fun i hi => Int.le_of_eq (tH_self29 hW hT hi)) (fun i j k hi hj hk => tH_tri33 hW hT hi hj hk) (fun i j hi hj => least_tH33 hW hT hL hi hj) hi hj
  have b := jn_le_tH33 hW hT hi hj
  omega
theorem least_of33 (h : ∀ i j, i < t.length → j < t.length → tH29 t T i j ≤ lev t i j) : Least t T := by
  have kc : Kc t [] T := ⟨hT, fun e z => absurd z List.not_mem_nil, fun e he _ => by
    obtain ⟨a, b⟩ := e
    obtain ⟨h1, h2, h3⟩ := mem_ppre.mp he
    refine ⟨T.filter fun f => decide (lev t f.1 f.2 ≤ lev t a b), fun f hf => ?_, ?_⟩
    · obtain ⟨r1, r2⟩ := List.mem_filter.mp hf
      exact ⟨r1, .inr (of_decide_eq_true r2)⟩
    · have w : Wk (gT29 t T) t.length (tH29 t T a b) a b := fw_walk _ a b (Nat.le_refl _) (by omega) h3
      have p := low_walk29 hW hT (hW.lev (show a < t.length by omega) h3 (by omega)).2 (w.mono (h a b (by omega) h3))
      refine p.mono fun x y r => ?_
      rcases r.1 with e | e
      · exact .inl (List.mem_filter.mpr ⟨e, decide_eq_true r.2⟩)
      · exact .inr (List.mem_filter.mpr ⟨e, decide_eq_true (by rw [lev_comm]; exact r.2)⟩)⟩
  exact ⟨hT, fun S hS => kc.le _ S hS (fun e z => absurd z List.not_mem_nil) (Nat.le_refl _)⟩
theorem TL_eq33 : TL29 t T = jtab t ↔ Least t T := by
  constructor
  · intro e
    refine least_of33 hW hT fun i j hi hj => ?_
    rw [← TL_lev33 hW hT hi hj, e, jtab_lev hW hi hj]
    exact jn_le hW i j
  · intro hL
    exact tri_congr fun i j hi hj => least_jn33 hW hT hL hi (by omega)
theorem TL_least33 : Least (TL29 t T) T := by
  have hW' : WT (TL29 t T) := TL_wt29 hW hT
  have hT' : Span (TL29 t T).length T := by rw [TL_len29]; exact hT
  refine least_of33 hW' hT' fun i j hi hj => ?_
  rw [TL_len29] at hi hj
  have e : tH29 (TL29 t T) T i j = tH29 t T i j := by
    unfold tH29
    rw [TL_len29]
    refine fw_congr (n := t.length) (fun a b ha hb => ?_) _ i j (Nat.le_refl _) hi hj
    by_cases h : a = b
    · subst h
      rw [gT_self29, gT_self29]
    · by_cases eT : Ed T a b
      · rw [gT_ed29 h eT, gT_ed29 h eT, TL_lev33 hW hT ha hb, tH_edge33 hW hT eT]
      · rw [gT_no29 h eT, gT_no29 h eT]
  rw [e, TL_lev33 hW hT hi hj]
  exact Int.le_refl _
omit hW in
theorem sum_least33 {F : List (Nat × Nat)} (hF : Least t F) : 0 ≤ wsum t T - wsum t F ∧ (wsum t T - wsum t F = 0 ↔ Least t T) := by
  have a := hF.le T hT
  refine ⟨by omega, fun e => ⟨hT, fun S hS => ?_⟩, fun h => ?_⟩
  · have := hF.le S hS
    omega
  · have := h.le F hF.span
    omega
omit hW in
/-- a pair of a least tree goes into another one, for one that is not lower -/
theorem exch33 {F : List (Nat × Nat)} (hF : Least t F) {p : Nat × Nat} (hp : p ∈ F) (no : p ∉ T) : ∃ f ∈ T, f ∉ F ∧ lev t p.1 p.2 ≤ lev t f.1 f.2 ∧ Conn t.length (T.erase f ++ [p]) := by
  obtain ⟨a, b⟩ := p
  obtain ⟨hab, hb⟩ := hF.span.mem hp
  have nl : ¬ Lk (T.filter fun f => decide (f ∈ F) || decide (lev t f.1 f.2 < lev t a b)) a b := fun l => by
    obtain ⟨x, y, r, lo, hi, hlt, hhi, o, nin, S, hS, pS⟩ := hF.span.over hp (R := Ed (T.filter fun f => decide (f ∈ F) || decide (lev t f.1 f.2 < lev t a b))) (fun x y r => by
      rcases r with r | r
      · have := hT.mem (List.mem_filter.mp r).1
        omega
      · have := hT.mem (List.mem_filter.mp r).1
        omega) l
    have inT : (lo, hi) ∈ T.filter fun f => decide (f ∈ F) || decide (lev t f.1 f.2 < lev t a b) := by
      rcases o with ⟨rfl, rfl⟩ | ⟨rfl, rfl⟩
      · rcases r with r | r
        · exact r
        · have := hT.mem (List.mem_filter.mp r).1
          omega
      · rcases r with r | r
        · have := hT.mem (List.mem_filter.mp r).1
          omega
        · exact r
    obtain ⟨i1, i2⟩ := List.mem_filter.mp inT
    rcases Bool.or_eq_true_iff.mp i2 with i2 | i2
    · have iF := of_decide_eq_true i2
      have : (lo, hi) = (a, b) := Classical.byContradiction fun ne => nin ((List.mem_erase_of_ne ne).mpr iF)
      rw [this] at i1
      exact no i1
    · have i3 : lev t lo hi < lev t a b := of_decide_eq_true i2
      have w1 := hF.le S hS
      rw [wsum_perm pS, wsum_swap hp] at w1
      have e1 : lev t (a, b).1 (a, b).2 = lev t a b := rfl
      have e2 : lev t (lo, hi).1 (lo, hi).2 = lev t lo hi := rfl
      omega
  obtain ⟨f, hf, lf, S, hS, pS⟩ := hT.bring hab hb no _ nl
  obtain ⟨l1, l2⟩ := Bool.or_eq_false_iff.mp lf
  refine ⟨f, hf, of_decide_eq_false l1, ?_, fun i j hi hj => (hS.con i j hi hj).mono fun e he => pS.mem_iff.mp he⟩
  have := of_decide_eq_false l2
  show lev t a b ≤ _
  omega
end
section
variable {P : Program} {w : World} {K : PySem.W.Frag} {mg : Str → Option Value} {base : Heap}
/-! ### the program: levels along a tree -/
theorem take_range29 (f : Nat → Int) {i n : Nat} (h : i ≤ n) : (((List.range n).map f).map V.int).take i = ((List.range i).map f).map V.int := by
  rw [← List.map_take, ← List.map_take, List.take_range, Nat.min_eq_left h]
theorem room65 {k : Nat} {A : Around} (r : Room k A) : A.units + 65 < cLine := by have := r.un; omega
theorem sqr_congr29 {f g : Nat → Nat → Int} {n : Nat} (h : ∀ i j, i < n → j < n → f i j = g i j) : sqr f n = sqr g n := by
  unfold sqr
  refine List.map_congr_left fun i hi => List.map_congr_left fun j hj => h i j (List.mem_range.mp hi) (List.mem_range.mp hj)
open Classical in
/-- the square when some pairs are done -/
noncomputable def gP29 (t : List (List Int)) (T E : List (Nat × Nat)) (i j : Nat) : Int := if i ≠ j ∧ Ed E i j ∧ ¬ Ed T i j then 1000000000000 + 1 else lev t i j
theorem gP_nil29 (t : List (List Int)) (T : List (Nat × Nat)) : gP29 t T [] = lev t := by
  funext i j
  unfold gP29
  rw [if_neg]
  rintro ⟨_, h | h, _⟩ <;> cases h
theorem gP_all29 {t : List (List Int)} {T : List (Nat × Nat)} {i j : Nat} (hi : i < t.length) (hj : j < t.length) : gP29 t T (ppre t.length t.length) i j = gT29 t T i j := by
  by_cases h : i = j
  · subst h
    rw [gT_self29]
    unfold gP29
    rw [if_neg (fun z => z.1 rfl), lev_self]
  · have e : Ed (ppre t.length t.length) i j := by
      rcases Nat.lt_or_gt_of_ne h with z | z
      · exact .inl (mem_ppre.mpr ⟨hi, z, hj⟩)
      · exact .inr (mem_ppre.mpr ⟨hj, z, hi⟩)
    unfold gP29
    by_cases eT : Ed T i j
    · rw [if_neg (fun z => z.2.2 eT), gT_ed29 h eT]
    · rw [if_pos ⟨h, e, eT⟩, gT_no29 h eT]
      rfl
theorem gP_in29 {t : List (List Int)} {T E : List (Nat × Nat)} {a b : Nat} (h : Ed T a b) (i j : Nat) : gP29 t T (E ++ [(a, b)]) i j = gP29 t T E i j := by
  unfold gP29
  have e : (i ≠ j ∧ Ed (E ++ [(a, b)]) i j ∧ ¬ Ed T i j) ↔ (i ≠ j ∧ Ed E i j ∧ ¬ Ed T i j) := by
    constructor
    · rintro ⟨h1, h2, h3⟩
      refine ⟨h1, ?_, h3⟩
      rcases h2 with h2 | h2
      · rcases List.mem_append.mp h2 with h2 | h2
        · exact .inl h2
        · cases List.mem_singleton.mp h2
          exact absurd h h3
      · rcases List.mem_append.mp h2 with h2 | h2
        · exact .inr h2
        · cases List.mem_singleton.mp h2
          exact absurd (Ed.symm _ _ h) h3
    · rintro ⟨h1, h2, h3⟩
      exact ⟨h1, h2.imp (List.mem_append_left _) (List.mem_append_left _), h3⟩
  by_cases z : (i ≠ j ∧ Ed (E ++ [(a, b)]) i j ∧ ¬ Ed T i j)
  · rw [if_pos z, if_pos (e.mp z)]
  · rw [if_neg z, if_neg (fun y => z (e.mpr y))]
theorem gP_out29 {t : List (List Int)} {T E : List (Nat × Nat)} {a b : Nat} (hab : a ≠ b) (h : ¬ Ed T a b) (i j : Nat) : gP29 t T (E ++ [(a, b)]) i j = if i = b ∧ j = a then 1000000000000 + 1 else if i = a ∧ j = b then 1000000000000 + 1 else gP29 t T E i j := by
  unfold gP29
  by_cases z1 : i = b ∧ j = a
  · have ee : Ed (E ++ [(a, b)]) a b := .inl (List.mem_append_right _ List.mem_cons_self)
    rw [if_pos z1, z1.1, z1.2, if_pos (And.intro (fun z => hab z.symm) (And.intro (Ed.symm _ _ ee) (fun z => h (Ed.symm _ _ z))))]
  · rw [if_neg z1]
    by_cases z2 : i = a ∧ j = b
    · have ee : Ed (E ++ [(a, b)]) a b := .inl (List.mem_append_right _ List.mem_cons_self)
      rw [if_pos z2, z2.1, z2.2, if_pos (And.intro hab (And.intro ee h))]
    · rw [if_neg z2]
      have e : (i ≠ j ∧ Ed (E ++ [(a, b)]) i j ∧ ¬ Ed T i j) ↔ (i ≠ j ∧ Ed E i j ∧ ¬ Ed T i j) := by
        constructor
        · rintro ⟨h1, h2, h3⟩
          refine ⟨h1, ?_, h3⟩
          rcases h2 with h2 | h2
          · rcases List.mem_append.mp h2 with h2 | h2
            · exact .inl h2
            · cases List.mem_singleton.mp h2
              exact absurd ⟨rfl, rfl⟩ z2
          · rcases List.mem_append.mp h2 with h2 | h2
            · exact .inr h2
            · cases List.mem_singleton.mp h2
              exact absurd ⟨rfl, rfl⟩ z1
        · rintro ⟨h1, h2, h3⟩
          exact ⟨h1, h2.imp (List.mem_append_left _) (List.mem_append_left _), h3⟩
      by_cases z : (i ≠ j ∧ Ed (E ++ [(a, b)]) i j ∧ ¬ Ed T i j)
      · rw [if_pos z, if_pos (e.mp z)]
      · rw [if_neg z, if_neg (fun y => z (e.mpr y))]
structure Tl33 (K : PySem.W.Frag) (mg : Str → Option Value) : Prop where
  B : Bi mg
  gL : ∃ t, mg "LEVEL" = some (.int 1000000000000 t)
  lb : ∃ f fd, Df K mg "level_between" s_level_between f fd ["table", "one", "other"]
  lgrid : ∃ f fd, Df K mg "level_grid" s_level_grid f fd ["table"]
  low : ∃ f fd, Df K mg "lowest_grid" s_lowest_grid f fd ["grid"]
  pairs : ∃ f fd, Df K mg "pairs_of" s_pairs_of f fd ["table"]
  whole : ∃ f fd, Df K mg "is_whole" s_is_whole f fd ["value"]
  item : ∃ f fd, Df K mg "is_item" s_is_item f fd ["table", "value"]
  pair : ∃ f fd, Df K mg "is_pair" s_is_pair f fd ["table", "value"]
  own : ∃ f fd, Df K mg "own_sets" s_own_sets f fd ["members"]
  united : ∃ f fd, Df K mg "united" s_united f fd ["names", "one", "other"]
  conn : ∃ f fd, Df K mg "connects_all" s_connects_all f fd ["table", "pairs"]
  span : ∃ f fd, Df K mg "is_spanning" s_is_spanning f fd ["table", "value"]
def sp_tlev33 (K : PySem.W.Frag) : Sp := fun vs H Q _ => ∃ (tv : V) (t : List (List Int)) (p : Addr) (ws : List V) (Tr : List (Nat × Nat)), vs = [tv, .ref p] ∧ TT K H tv t ∧ WT t ∧ 1 ≤ t.length ∧ t.length ≤ 12 ∧ SqT K H p ws ∧ Prs K H ws Tr ∧ Span t.length Tr ∧
  ∀ (H' : Hp) (z : V), Sm H H' → TT K H' z (TL29 t Tr) → Q z H'
set_option maxHeartbeats 8000000 in
theorem ok_tlev33 {f : Addr} {fd : FuncData} (F : Fun K "tree_levels" "tree_levels" s_tree_levels f fd) (T : Tl33 K mg) : FnOk P w K mg base CX0 6 f fd ["table", "value"] (sp_tlev33 K) := by
  have B := T.B
  obtain ⟨tL, gL⟩ := T.gL
  obtain ⟨f1, fd1, D_is_whole⟩ := T.whole
  obtain ⟨f2, fd2, D_is_item⟩ := T.item
  obtain ⟨f3, fd3, D_is_pair⟩ := T.pair
  obtain ⟨f4, fd4, D_own_sets⟩ := T.own
  obtain ⟨f5, fd5, D_united⟩ := T.united
  obtain ⟨f6, fd6, D_connects_all⟩ := T.conn
  obtain ⟨f7, fd7, D_is_spanning⟩ := T.span
  obtain ⟨f8, fd8, D_level_between⟩ := T.lb
  obtain ⟨f9, fd9, D_level_grid⟩ := T.lgrid
  obtain ⟨fA, fdA, D_lowest_grid⟩ := T.low
  obtain ⟨fB, fdB, D_pairs_of⟩ := T.pairs
  have G_is_spanning : FnOk P w K mg base CX0 5 f7 fd7 ["table", "value"] (sp_isspan29 K) := (ok_isspan29 D_is_spanning.F D_is_pair D_connects_all D_own_sets D_united D_is_item D_is_whole B).mono (by decide)
  have G_level_grid : FnOk P w K mg base CX0 5 f9 fd9 ["table"] (sp_lgrid K) := (ok_lgrid D_level_grid.F D_level_between B).mono (by decide)
  have G_lowest_grid : FnOk P w K mg base CX0 5 fA fdA ["grid"] (sp_low K) := ok_low D_lowest_grid.F B
  have G_pairs_of : FnOk P w K mg base CX0 5 fB fdB ["table"] (sp_pairs K) := ok_pairs D_pairs_of.F B
  refine F.ok sc_tree_levels (fun vs H Q E h => ?_) (fun cdv A outer s H vs Q E hr h => ?_)
  · obtain ⟨tv, t, p, ws, Tr, rfl, _⟩ := h
    rfl
  · obtain ⟨tv, t, p, ws, Tr0, rfl, hT, hW, h1, h12, hpw, hpr, hsp, q1⟩ := h
    obtain ⟨v, hv⟩ : ∃ v : V, v = .ref p := ⟨_, rfl⟩
    obtain ⟨x, hx0⟩ : ∃ x : PyData, x = prsD Tr0 := ⟨_, rfl⟩
    have hd : Da K (fun _ => True) H v x := by
      rw [hv, hx0]
      exact .tup hpw (da_prs29 hpr)
    obtain ⟨ok, hok⟩ : ∃ ok : Addr → Prop, ok = fun _ => True := ⟨_, rfl⟩
    rw [← hok] at hd
    rw [← hv]
    have nd := sc_tree_levels.nd
    refine ⟨_, (pss_cons (ps_if (pt_not (pt_val (pe_cl D_is_spanning G_is_spanning hr (pa_cons (pv 0) (pa_cons (pv 1) pa_nil)))))
      pss_never
      pss_nil)
      (pss_cons (ps_set (i := 2) nd rfl (.inl rfl) (pe_cl D_level_grid G_level_grid hr (pa_cons (pv 0) pa_nil)))
      (pss_cons (ps_for PassesOwn.never rfl (pi_tup (pe_cl D_pairs_of G_pairs_of hr (pa_cons (pv 0) pa_nil))) (pg_tup rfl (pgs_cons (pg_name (i := 3) nd rfl (.inl rfl)) (pgs_cons (pg_name (i := 4) nd rfl (.inl rfl)) pgs_nil)))
      (pss_one (ps_if (pt_cmpR (r := rNotInDT K) (op_notInDT (room65 hr)) (pe_tup (pa_cons (pv 3) (pa_cons (pv 4) pa_nil))) (pv 1) (by rfl))
      (pss_one (ps_asg2 (pe_op op_add (pe_glob (v := .int 1000000000000) rfl gL ⟨_, rfl⟩) pe_int) (pg_sub (pe_ix ix_list (pv 2) (pv 3) (fun _ _ => rfl)) (pv 4) set_list) (pg_sub (pe_ix ix_list (pv 2) (pv 4) (fun _ _ => rfl)) (pv 3) set_list)))
      pss_nil)))
      (pss_one (ps_ret (pe_callTy call_tuple_of (by rfl) B.tuple (by decide +kernel) (pa_cons (pe_lc (own := [("at", 5), ("row", 6)]) (g := gTup K 2 (gCons (gName 5) (gCons (gName 6) gNil))) (tt := tYes) rfl nd (pi_enum (by rfl) B.enumerate (pa_cons (pe_cl D_lowest_grid G_lowest_grid hr (pa_cons (pv 2) pa_nil)) pa_nil)) (blkOk_by (N := N_tree_levels) (sc := defScope s_tree_levels) (by decide +kernel))
            (fun _ _ _ _ _ => pg_tup rfl (pgs_cons (pg_name (i := 5) nd rfl (.inl rfl)) (pgs_cons (pg_name (i := 6) nd rfl (.inl rfl)) pgs_nil))) (fun _ _ _ _ _ => pts_nil) (te := tCB (rTup K) (tCons (tSl (rSlL K) (tVar 6) tNoPart (tPart (tVar 5))) tNil)) (fun _ _ _ _ _ => (pe_callTy call_tuple_of (by rfl) B.tuple (by decide +kernel) (pa_cons (pe_slice sl_list (pv 6) po_none (po_some (pv 5))) pa_nil)))) pa_nil))))))), ?_⟩
    obtain ⟨tp, rs, rfl, htp, hR⟩ := id hT
    have hrl : rs.length = t.length := hR.1
    refine ⟨.ref tp, rfl, v, rfl, ok, tp, rs, v, x, rfl, htp, by omega, by omega, hd, fun H1 s1 => ?_⟩
    rw [hrl]
    cases hx : spanB29 t.length x with
    | false =>
      rw [hx0, span_iff29.mpr ⟨Tr0, hsp, rfl⟩] at hx
      cases hx
    | true =>
      obtain ⟨Tr, hTr, ex⟩ := span_iff29.mp hx
      have eT : Tr = Tr0 := rows_inj29 (PyData.tuple.inj (ex.symm.trans hx0))
      subst eT
      subst ex
      have hT1 : TT K H1 (.ref tp) t := hT.same s1
      refine ⟨_, rfl, .ref tp, rfl, .ref tp, t, rfl, hT1, hW, by omega, fun H2 o ps s2 ho0 hps ho hG => ?_⟩
      have hT2 : TT K H2 (.ref tp) t := hT1.same s2
      obtain ⟨n, hn⟩ : ∃ n, n = t.length := ⟨_, rfl⟩
      rw [← hn] at hG
      refine ⟨.ref tp, rfl, .ref tp, t, rfl, hT2, by omega, fun H3 pp vs' s3 hpp hvs => ?_⟩
      rw [← hn] at hvs
      have vl := hvs.1
      have oP := hG.outer ho
      have s13 := s2.trans s3
      refine ⟨pp, rfl, ⟨_, hpp⟩, for_tup (xs := vs') (fun m σ Hx => ∃ x3 x4, σ = [some (.ref tp), some v, some (.ref o), x3, x4, none, none] ∧ Hx o = some (.lst (ps.map V.ref)) ∧ Rws Hx ps (sqr (gP29 t Tr ((ppre n n).take m)) n) ∧ Sm H1 Hx ∧ SqT K Hx pp vs' ∧ Prs K Hx vs' (ppre n n))
        ⟨none, none, rfl, s3 _ _ ho, by rw [List.take_zero, gP_nil29]; exact hG.same s3, s13, hpp, hvs⟩ (fun m σ Hx _ hI => ?_) (fun m y σ Hx hy hI => ?_) (fun σ Hx hI => ?_)⟩
      · obtain ⟨_, _, _, _, _, _, h, _⟩ := hI
        exact h
      · obtain ⟨x3, x4, rfl, hox, hGx, sx, hppx, hvx⟩ := hI
        obtain ⟨⟨a, b⟩, hab⟩ : ∃ e, (ppre n n)[m]? = some e := by
          have := (List.getElem?_eq_some_iff.mp hy).1
          exact ⟨_, List.getElem?_eq_getElem (by omega)⟩
        obtain ⟨ya, rfl, hya⟩ := hvx.2 m y (a, b) hy hab
        obtain ⟨g1, g2, g3⟩ := mem_ppre.mp (List.mem_of_getElem? hab)
        have etk : (ppre n n).take (m + 1) = (ppre n n).take m ++ [(a, b)] := by
          rw [List.take_add_one, hab]
          rfl
        refine ⟨ya, _, rfl, hya, rfl, _, _, rfl, _, _, rfl, rfl, ?_⟩
        refine ⟨.int (a : Int), rfl, .int (b : Int), rfl, small1000 (Nat.le_of_ble_eq_true rfl), fun lp hlp => ?_⟩
        have s4 : Sm Hx (upd Hx lp (.tup [.int (a : Int), .int (b : Int)])) := Sm.new hlp
        have hlp4 : SqT K (upd Hx lp (.tup [.int (a : Int), .int (b : Int)])) lp ([(a : Int), (b : Int)].map V.int) := SqT.of upd_same
        have o4 := s4 _ _ hox
        have G4 := hGx.same s4
        have p4 := s4.sqT hppx
        have v4 := hvx.same s4
        have sx4 := sx.trans s4
        generalize upd Hx lp (.tup [.int (a : Int), .int (b : Int)]) = H4 at s4 hlp4 o4 G4 p4 v4 sx4
        have hd4 := hd.same (s1.trans sx4)
        cases hd4 with
        | @tup va vx _ hva hall =>
          have hP := prs_da29 hall
          refine ⟨.ref va, rfl, _, _, dp_tup hlp4, prs_dp hva hP, shaped_tup _, lay_tab _, _, rfl, ?_⟩
          have e3 : ((Tr.map e2).map rowD).any (fun z => PyData.eqv z (PyData.tuple ([(a : Int), (b : Int)].map PyData.int))) = decide ((a, b) ∈ Tr) := any_e2 Tr a b
          rw [e3]
          have eEd : Ed Tr a b ↔ (a, b) ∈ Tr := ⟨fun z => by
            rcases z with z | z
            · exact z
            · have := hTr.mem z
              omega, fun z => .inl z⟩
          by_cases hm : (a, b) ∈ Tr
          · rw [decide_eq_true hm]
            refine ⟨_, _, rfl, o4, ?_, sx4, p4, v4⟩
            rw [etk, sqr_congr29 (fun i j _ _ => gP_in29 (eEd.mpr hm) i j)]
            exact G4
          · rw [decide_eq_false hm]
            have oP4 := G4.outer o4
            have nT : ¬ Ed Tr a b := fun z => hm (eEd.mp z)
            have fr4 : ∀ q ∈ ps, H1 q = none := hps
            obtain ⟨p, hp, hpr⟩ := G4.get (i := a) (by rw [sqr_len]; omega)
            rw [sqr_row _ (by omega)] at hpr
            refine ⟨_, _, rfl, rfl, .ref o, rfl, .int (a : Int), rfl, o, _, _, _, rfl, rfl, SqL.of o4, atI_nat (refs_at hp), .int (b : Int), rfl, p, _, _, b, rfl, rfl, hpr, ixN_at (by rw [List.length_map, List.length_map, List.length_range]; omega), ?_⟩
            have G5 : Rws (upd H4 p (.lst ((((List.range n).map (gP29 t Tr ((ppre n n).take m) a)).map V.int).set b (.int (1000000000000 + 1))))) ps (sqr (fun i j => if i = a ∧ j = b then 1000000000000 + 1 else gP29 t Tr ((ppre n n).take m) i j) n) := by
              rw [← sqr_set _ (by omega) (by omega), show (((List.range n).map (gP29 t Tr ((ppre n n).take m) a)).map V.int).set b (.int (1000000000000 + 1)) = (((List.range n).map (gP29 t Tr ((ppre n n).take m) a)).set b (1000000000000 + 1)).map V.int by rw [List.map_set]]
              exact G4.set hp
            have o5 : (upd H4 p (.lst ((((List.range n).map (gP29 t Tr ((ppre n n).take m) a)).map V.int).set b (.int (1000000000000 + 1))))) o = some (.lst (ps.map V.ref)) := by
              rw [upd_ne (fun z => oP4 (by rw [z]; exact List.mem_of_getElem? hp))]
              exact o4
            have sx5 : Sm H1 (upd H4 p (.lst ((((List.range n).map (gP29 t Tr ((ppre n n).take m) a)).map V.int).set b (.int (1000000000000 + 1))))) := fun c u e => by
              rw [upd_ne (fun z => by
                have := hps p (List.mem_of_getElem? hp)
                rw [← z, e] at this
                cases this)]
              exact sx4 c u e
            have p5 : SqT K (upd H4 p (.lst ((((List.range n).map (gP29 t Tr ((ppre n n).take m) a)).map V.int).set b (.int (1000000000000 + 1))))) pp vs' := sqT_upd hpr p4
            have v5 : Prs K (upd H4 p (.lst ((((List.range n).map (gP29 t Tr ((ppre n n).take m) a)).map V.int).set b (.int (1000000000000 + 1))))) vs' (ppre n n) := v4.upd hpr
            generalize upd H4 p (.lst ((((List.range n).map (gP29 t Tr ((ppre n n).take m) a)).map V.int).set b (.int (1000000000000 + 1)))) = H5 at G5 o5 sx5 p5 v5
            obtain ⟨p2, hp2, hpr2⟩ := G5.get (i := b) (by rw [sqr_len]; omega)
            rw [sqr_row _ (by omega)] at hpr2
            refine ⟨.ref o, rfl, .int (b : Int), rfl, o, _, _, _, rfl, rfl, SqL.of o5, atI_nat (refs_at hp2), .int (a : Int), rfl, p2, _, _, a, rfl, rfl, hpr2, ixN_at (by rw [List.length_map, List.length_map, List.length_range]; omega), ?_⟩
            refine ⟨_, _, rfl, ?_, ?_, ?_, sqT_upd hpr2 p5, v5.upd hpr2⟩
            · rw [upd_ne (fun z => oP4 (by rw [z]; exact List.mem_of_getElem? hp2))]
              exact o5
            · rw [etk, sqr_congr29 (fun i j _ _ => gP_out29 (by omega) nT i j), ← sqr_set (fun i j => if i = a ∧ j = b then 1000000000000 + 1 else gP29 t Tr ((ppre n n).take m) i j) (by omega) (by omega), ← List.map_set]
              exact G5.set hp2
            · intro c u e
              rw [upd_ne (fun z => by
                have := hps p2 (List.mem_of_getElem? hp2)
                rw [← z, e] at this
                cases this)]
              exact sx5 c u e
      · obtain ⟨x3, x4, rfl, hox, hGx, sx, hppx, hvx⟩ := hI
        rw [vl, List.take_length] at hGx
        have hGx : Rws Hx ps (sqr (gT29 t Tr) n) := by
          rw [← sqr_congr29 (f := gP29 t Tr (ppre n n)) (n := n) (fun i j hi hj => by rw [hn] at hi hj ⊢; exact gP_all29 hi hj)]
          exact hGx
        show _
        refine ⟨.ref o, rfl, o, ps, _, n, rfl, hox, hGx, by omega, fun H4 o4 ps4 s4 ho4 hR4 => ?_⟩
        have hpl4 := hR4.1
        rw [sqr_len] at hpl4
        have e29 : ∀ i j, fw (gT29 t Tr) n i j = tH29 t Tr i j := fun i j => by rw [hn]; rfl
        rw [sqr_congr29 (fun i j _ _ => e29 i j)] at hR4
        refine ⟨o4, _, rfl, SqL.of ho4, fun D hDn => lc_enumL (xs := ps4.map V.ref) (fun i Hx => ∃ xs, Hx D = some (.lst xs) ∧ Rows K Hx xs ((tri (tH29 t Tr) n).take i) ∧ Sm H4 Hx) ⟨[], upd_same, by rw [List.take_zero]; exact Rows.nil, Sm.new hDn⟩ (fun i Hx _ hP => ?_) (fun i x Tq Hx hx hP hTq => ?_) (fun Hx hP => ?_)⟩
        · obtain ⟨_, _, _, sx⟩ := hP
          exact SqL.of (sx _ _ ho4)
        · obtain ⟨xs, k1, k2, sx⟩ := hP
          have hi : i < n := by
            have := (List.getElem?_eq_some_iff.mp hx).1
            rw [List.length_map] at this
            omega
          obtain ⟨p, hp, hpr⟩ := hR4.get (i := i) (by rw [sqr_len]; exact hi)
          rw [sqr_row _ hi] at hpr
          obtain rfl : x = .ref p := Option.some.inj (hx.symm.trans (refs_at hp))
          have sT : Sm Hx (upd Hx Tq (.tup [.int (i : Int), .ref p])) := Sm.new hTq
          refine ⟨Tq, _, rfl, SqT.of upd_same, rfl, _, _, rfl, _, _, rfl, rfl, rfl, ?_⟩
          refine ⟨.ref p, rfl, .int (i : Int), rfl, _, rfl, p, _, rfl, SqL.of (sT _ _ (sx _ _ hpr)), fun sl hsl => ?_⟩
          rw [cut_to, take_range29 _ (Nat.le_of_lt hi)]
          have sS := sT.trans (Sm.new (o := .lst (((List.range i).map (tH29 t Tr i)).map V.int)) hsl)
          refine ⟨sl, _, rfl, .inl ⟨SqL.of upd_same, fun l hl => ?_⟩⟩
          have sl' := sS.trans (Sm.new (o := .tup (((List.range i).map (tH29 t Tr i)).map V.int)) hl)
          have hxl := k2.1
          rw [List.length_take] at hxl
          refine ⟨_, sl' _ _ k1, small1000 (by omega), _, upd_same, ?_, ?_⟩
          · have e : (tri (tH29 t Tr) n).take (i + 1) = (tri (tH29 t Tr) n).take i ++ [(List.range i).map (tH29 t Tr i)] := by
              rw [List.take_add_one, tri_get _ hi]
              rfl
            rw [e]
            exact ((k2.same sl').snoc ⟨l, rfl, SqT.of upd_same⟩).upd (sl' _ _ k1)
          · intro b u e
            rw [upd_ne (ne_of_none e hDn)]
            exact sl' _ _ (sx b u e)
        · obtain ⟨xs, k1, k2, sx2⟩ := hP
          rw [List.take_of_length_le (by rw [tri_len, List.length_map]; omega), hn] at k2
          refine ⟨D, _, rfl, .inl ⟨SqL.of k1, fun l hl => ?_⟩⟩
          exact q1 _ _ ((((s1.trans sx).trans s4).trans sx2).trans (Sm.new hl)) ⟨l, xs, rfl, SqT.of upd_same, k2.same (Sm.new hl)⟩
end
section
variable {P : Program} {w : World} {K : PySem.W.Frag} {mg : Str → Option Value} {base : Heap}
/-! ### the program: sums, the least tree -/
def sp_sum28 (K : PySem.W.Frag) : Sp := fun vs H Q _ => ∃ (tv : V) (t : List (List Int)) (p : Addr) (ws : List V) (E : List (Nat × Nat)), vs = [tv, .ref p] ∧ TT K H tv t ∧ WT t ∧ t.length ≤ 20 ∧ SqT K H p ws ∧ Prs K H ws E ∧ (∀ e ∈ E, e ∈ ppre t.length t.length) ∧ E.length ≤ 20 ∧ ∀ H', Sm H H' → Q (.int (wsum t E)) H'
theorem ok_sum28 {f fL : Addr} {fd fdL : FuncData} {k : Nat} (F : Fun K "sum_of" "sum_of" s_sum_of f fd) (D_level_between : Df K mg "level_between" s_level_between fL fdL ["table", "one", "other"]) (B : Bi mg) : FnOk P w K mg base CX0 (k + 2) f fd ["table", "tree"] (sp_sum28 K) := by
  have G_level_between : FnOk P w K mg base CX0 (k + 1) fL fdL ["table", "one", "other"] (sp_lb K) := ok_lb D_level_between.F B
  refine F.ok sc_sum_of (fun vs H Q E h => ?_) (fun cdv A outer s H vs Q E hr h => ?_)
  · obtain ⟨tv, t, p, ws, E, rfl, _⟩ := h
    rfl
  · obtain ⟨tv, t, p, ws, Ed, rfl, hT, hW, h20, hp, hP, hin, hl, q⟩ := h
    have nd := sc_sum_of.nd
    refine ⟨_, (pss_one (ps_ret (pe_callB (cr_sum rfl) (by rfl) B.sum (by decide +kernel) (pa_cons (pe_lc (own := [("one", 2), ("other", 3)]) (g := gTup K 2 (gCons (gName 2) (gCons (gName 3) gNil))) (tt := tYes) (te := tCall (sp_lb K) [] E0 (tCons (tVar 0) (tCons (tVar 2) (tCons (tVar 3) tNil)))) rfl nd (pi_tup (pv 1)) (blkOk_by (N := N_sum_of) (sc := defScope s_sum_of) (by decide +kernel))
            (fun _ _ _ _ _ => pg_tup rfl (pgs_cons (pg_name (i := 2) nd rfl (.inl rfl)) (pgs_cons (pg_name (i := 3) nd rfl (.inl rfl)) pgs_nil))) (fun _ _ _ _ _ => pts_nil) (fun _ _ _ _ _ => (pe_cl D_level_between G_level_between hr (pa_cons (pv 0) (pa_cons (pv 2) (pa_cons (pv 3) pa_nil)))))) pa_nil)))), ?_⟩
    obtain ⟨tp, rs, rfl, htp, hR⟩ := id hT
    refine ⟨.ref p, rfl, p, rfl, ⟨_, hp⟩, fun D hD => lc_tup (xs := ws) (fun m Hy => Hy D = some (.lst (((Ed.take m).map fun e => lev t e.1 e.2).map V.int)) ∧ Sm H Hy) ⟨upd_same, Sm.new hD⟩ (fun m Hy _ hQ => hQ.2.sqT hp) (fun m y Hy hy hQ => ?_) (fun Hy hQ => ?_)⟩
    · obtain ⟨g1, sy⟩ := hQ
      have hm : m < Ed.length := by rw [← hP.1]; exact (List.getElem?_eq_some_iff.mp hy).1
      obtain ⟨⟨a, b⟩, hab⟩ : ∃ ab, Ed[m]? = some ab := ⟨_, List.getElem?_eq_getElem hm⟩
      obtain ⟨pa, rfl, hpa⟩ := hP.2 m y (a, b) hy hab
      obtain ⟨ha, hlt, hb⟩ := mem_ppre.mp (hin _ (List.mem_of_getElem? hab))
      refine ⟨pa, _, rfl, sy.sqT hpa, rfl, _, _, rfl, _, _, rfl, rfl, rfl, ?_⟩
      refine ⟨.ref tp, rfl, .int (a : Int), rfl, .int (b : Int), rfl, .ref tp, t, a, b, rfl, hT.same sy, hW, ha, hb, ?_⟩
      refine ⟨_, g1, by rw [List.length_map, List.length_map, List.length_take]; exact small1000 (by omega), ?_, fun cc o e => by rw [upd_ne (ne_of_none e hD)]; exact sy cc o e⟩
      rw [upd_same, List.take_add_one, hab, List.map_append, List.map_append]
      rfl
    · obtain ⟨g1, sy⟩ := hQ
      rw [hP.1, List.take_length] at g1
      exact ⟨D, _, rfl, SqL.of g1, q _ sy⟩
/-- a row of level and pair -/
def Lw28 (K : PySem.W.Frag) (t : List (List Int)) (H : Hp) (v : V) (e : Nat × Nat) : Prop := ∃ p q, v = .ref p ∧ SqT K H p [.int (lev t e.1 e.2), .ref q] ∧ SqT K H q [.int (e.1 : Int), .int (e.2 : Int)]
theorem Lw28.same {t : List (List Int)} {H H' : Hp} {v : V} {j : Nat × Nat} (h : Lw28 K t H v j) (s : Sm H H') : Lw28 K t H' v j := by
  obtain ⟨p, q, h1, h2, h3⟩ := h
  exact ⟨p, q, h1, s.sqT h2, s.sqT h3⟩
def lwD28 (t : List (List Int)) (e : Nat × Nat) : PyData := .tuple [.int (lev t e.1 e.2), rowD (e2 e)]
theorem Lw28.dp {t : List (List Int)} {H : Hp} {v : V} {j : Nat × Nat} (h : Lw28 K t H v j) : Dp K H v (lwD28 t j) := by
  obtain ⟨p, q, rfl, h2, h3⟩ := h
  exact .tup h2 (.cons (.int _) (.cons (dp_tup h3) .nil))
theorem lw_alike28 (t : List (List Int)) (p q : Nat × Nat) : PySem.W.alike (lwD28 t p) (lwD28 t q) = true := by
  unfold lwD28
  simp only [PySem.W.alike, PySem.W.alikeAll, Bool.and_true, Bool.true_and]
  exact alike_row _ _
theorem lw_dep28 (t : List (List Int)) (p : Nat × Nat) : (lwD28 t p).depth ≤ 60 := by
  have h : (rowD (e2 p)).depth = 1 := rfl
  unfold lwD28
  simp only [PyData.depth, PyData.depthAll, h]
  omega
theorem lw_lt28 {t : List (List Int)} {f e : Nat × Nat} (h : bef t f e) : PySem.W.dataLt (lwD28 t f) (lwD28 t e) = true := by
  have al : PySem.W.alike (.int (lev t f.1 f.2)) (.int (lev t e.1 e.2)) = true := by simp only [PySem.W.alike]
  rw [show PySem.W.dataLt (lwD28 t f) (lwD28 t e) = _ from PySem.W.dataLt_pair al (alike_row (e2 f) (e2 e))]
  rcases h with h | ⟨h1, h2⟩
  · rw [if_neg (by
      rw [show PyData.eqv (.int (lev t f.1 f.2)) (.int (lev t e.1 e.2)) = (lev t f.1 f.2 == lev t e.1 e.2) by unfold PyData.eqv; rfl, beq_iff_eq]
      omega), PySem.W.dataLt_int]
    exact decide_eq_true h
  · have hlt := (lt_pair29 f e).mpr h2
    rw [if_pos (by rw [h1, show PyData.eqv (.int (lev t e.1 e.2)) (.int (lev t e.1 e.2)) = (lev t e.1 e.2 == lev t e.1 e.2) by unfold PyData.eqv; rfl, beq_iff_eq]), hlt]
    rw [if_neg]
    intro z
    have z' : PyData.eqv (.tuple ((e2 f).map PyData.int)) (.tuple ((e2 e).map PyData.int)) = true := z
    rw [eqv_tup] at z'
    have := e2_inj29 (of_decide_eq_true z')
    exact Plt.irrefl29 (this ▸ h2)
theorem bef_or28 (t : List (List Int)) {f e : Nat × Nat} (ne : f ≠ e) : bef t f e ∨ bef t e f := by
  have h : ¬ (f.1 = e.1 ∧ f.2 = e.2) := fun z => ne (Prod.ext z.1 z.2)
  unfold bef Plt
  omega
/-- in order: each is before the next ones -/
theorem srt_bef28 {t : List (List Int)} {ks : List (Nat × Nat)} (nd : ks.Nodup) (h : ks.Pairwise fun q r => PySem.W.dataLt (lwD28 t r) (lwD28 t q) = false) : ks.Pairwise (bef t) :=
  (h.and nd).imp fun {x y} z => by
    obtain ⟨z1, z2⟩ := z
    rcases bef_or28 t z2 with h | h
    · exact h
    · rw [lw_lt28 h] at z1
      cases z1
end
section
variable {P : Program} {w : World} {K : PySem.W.Frag} {mg : Str → Option Value} {base : Heap}
def LwA28 (K : PySem.W.Frag) (t : List (List Int)) (H : Hp) (xs : List V) (js : List (Nat × Nat)) : Prop := xs.length = js.length ∧ ∀ (i : Nat) v j, xs[i]? = some v → js[i]? = some j → Lw28 K t H v j
theorem LwA28.same {t : List (List Int)} {H H' : Hp} {xs : List V} {js : List (Nat × Nat)} (h : LwA28 K t H xs js) (s : Sm H H') : LwA28 K t H' xs js := ⟨h.1, fun i v j a b => (h.2 i v j a b).same s⟩
theorem LwA28.upd {t : List (List Int)} {H : Hp} {p : Addr} {ys zs : List V} {xs : List V} {js : List (Nat × Nat)} (h : LwA28 K t H xs js) (hp : H p = some (.lst ys)) : LwA28 K t (L2.upd H p (.lst zs)) xs js :=
  ⟨h.1, fun i v j a b => by
    obtain ⟨p, q, h1, h2, h3⟩ := h.2 i v j a b
    exact ⟨p, q, h1, sqT_upd hp h2, sqT_upd hp h3⟩⟩
theorem LwA28.snoc {t : List (List Int)} {H : Hp} {v : V} {j : Nat × Nat} {xs : List V} {js : List (Nat × Nat)} (h : LwA28 K t H xs js) (g : Lw28 K t H v j) : LwA28 K t H (xs ++ [v]) (js ++ [j]) := by
  refine ⟨by rw [List.length_append, List.length_append, h.1]; rfl, fun i u k a b => ?_⟩
  rcases Nat.lt_or_ge i xs.length with z | z
  · rw [List.getElem?_append_left z] at a
    rw [List.getElem?_append_left (by rw [← h.1]; exact z)] at b
    exact h.2 i u k a b
  · rw [List.getElem?_append_right z] at a
    rw [List.getElem?_append_right (by rw [← h.1]; exact z)] at b
    have e : i - xs.length = 0 := by
      have := (List.getElem?_eq_some_iff.mp a).1
      simp at this
      omega
    rw [e] at a
    rw [← h.1, e] at b
    obtain rfl : v = u := Option.some.inj a
    obtain rfl : j = k := Option.some.inj b
    exact g
/-- pairs taken so far -/
structure Tk28 (t : List (List Int)) (n : Nat) (ks : List (Nat × Nat)) (i : Nat) (E : List (Nat × Nat)) : Prop where
  fo : Fo29 n E
  inn : ∀ e ∈ E, e ∈ ks.take i
  out : ∀ e ∈ ks.take i, e ∉ E → ∃ F, (∀ f ∈ F, f ∈ E ∧ bef t f e) ∧ Lk F e.1 e.2
theorem Tk28.start (t : List (List Int)) (n : Nat) (ks : List (Nat × Nat)) : Tk28 t n ks 0 [] := ⟨.nil n, fun e h => absurd h List.not_mem_nil, fun e h => by rw [List.take_zero] at h; cases h⟩
theorem Tk28.yes {t : List (List Int)} {n i : Nat} {ks E : List (Nat × Nat)} (h : Tk28 t n ks i E) {a b : Nat} (hk : ks[i]? = some (a, b)) (hab : a < b) (hb : b < n) (no : ¬ Lk E a b) : Tk28 t n ks (i + 1) (E ++ [(a, b)]) := by
  have e : ks.take (i + 1) = ks.take i ++ [(a, b)] := by rw [List.take_add_one, hk]; rfl
  refine ⟨h.fo.add hab hb no, fun x hx => ?_, fun x hx nx => ?_⟩
  · rw [e]
    rcases List.mem_append.mp hx with hx | hx
    · exact List.mem_append_left _ (h.inn x hx)
    · exact List.mem_append_right _ hx
  · rw [e] at hx
    rcases List.mem_append.mp hx with hx | hx
    · obtain ⟨F, f1, f2⟩ := h.out x hx fun z => nx (List.mem_append_left _ z)
      exact ⟨F, fun f hf => ⟨List.mem_append_left _ (f1 f hf).1, (f1 f hf).2⟩, f2⟩
    · exact absurd (List.mem_append_right _ hx) nx
theorem Tk28.no {t : List (List Int)} {n i : Nat} {ks E : List (Nat × Nat)} (h : Tk28 t n ks i E) (srt : ks.Pairwise (bef t)) {a b : Nat} (hk : ks[i]? = some (a, b)) (l : Lk E a b) : Tk28 t n ks (i + 1) E := by
  have e : ks.take (i + 1) = ks.take i ++ [(a, b)] := by rw [List.take_add_one, hk]; rfl
  refine ⟨h.fo, fun x hx => by rw [e]; exact List.mem_append_left _ (h.inn x hx), fun x hx nx => ?_⟩
  rw [e] at hx
  rcases List.mem_append.mp hx with hx | hx
  · exact h.out x hx nx
  · cases List.mem_singleton.mp hx
    have s2 := srt.sublist (List.take_sublist (i + 1) ks)
    rw [e] at s2
    exact ⟨E, fun f hf => ⟨hf, (List.pairwise_append.mp s2).2.2 f (h.inn f hf) _ List.mem_cons_self⟩, l⟩
theorem Tk28.kr {t : List (List Int)} {ks E S : List (Nat × Nat)} (h : Tk28 t t.length ks ks.length E) (h1 : 1 ≤ t.length) (pk : ks.Perm (ppre t.length t.length)) (p : S.Perm E) (srt : S.Pairwise fun x y => ¬ Plt y x) : Kr t S := by
  have hin : ∀ e ∈ ppre t.length t.length, e ∈ ks.take ks.length := fun e he => by rw [List.take_length]; exact pk.mem_iff.mpr he
  have cn : Conn t.length E := fun i j hi hj => by
    have all : ∀ a b, a < b → b < t.length → Lk E a b := fun a b h1 h2 => by
      have hp : (a, b) ∈ ppre t.length t.length := mem_ppre.mpr ⟨by omega, h1, h2⟩
      by_cases he : (a, b) ∈ E
      · exact .edge he
      · obtain ⟨F, f1, f2⟩ := h.out (a, b) (hin _ hp) he
        exact f2.mono fun f hf => (f1 f hf).1
    rcases Nat.lt_trichotomy i j with z | z | z
    · exact all i j z hj
    · rw [z]; exact .refl
    · exact (all j i z hi).symm
  refine ⟨h.fo.span h1 cn p srt, fun e he no => ?_⟩
  obtain ⟨F, f1, f2⟩ := h.out e (hin _ he) fun z => no (p.mem_iff.mpr z)
  exact ⟨F, fun f hf => ⟨p.mem_iff.mpr (f1 f hf).1, (f1 f hf).2⟩, f2⟩
def sp_least28 (K : PySem.W.Frag) : Sp := fun vs H Q _ => ∃ (tv : V) (t : List (List Int)), vs = [tv] ∧ TT K H tv t ∧ WT t ∧ 1 ≤ t.length ∧ t.length ≤ 12 ∧
  ∀ (H' : Hp) (p : Addr) (vs' : List V) (T : List (Nat × Nat)), Kr t T → Sm H H' → SqT K H' p vs' → Prs K H' vs' T → Q (.ref p) H'
set_option maxHeartbeats 8000000 in
theorem ok_least28 {f f1 f2 f3 f4 : Addr} {fd fd1 fd2 fd3 fd4 : FuncData} {k : Nat} (F : Fun K "least_tree" "least_tree" s_least_tree f fd) (D_own_sets : Df K mg "own_sets" s_own_sets f1 fd1 ["members"]) (D_united : Df K mg "united" s_united f2 fd2 ["names", "one", "other"])
    (D_pairs_of : Df K mg "pairs_of" s_pairs_of f3 fd3 ["table"]) (D_level_between : Df K mg "level_between" s_level_between f4 fd4 ["table", "one", "other"]) (B : Bi mg) : FnOk P w K mg base CX0 (k + 2) f fd ["table"] (sp_least28 K) := by
  have G_own_sets : FnOk P w K mg base CX0 (k + 1) f1 fd1 ["members"] (sp_own28 K) := ok_own28 D_own_sets.F B
  have G_united : FnOk P w K mg base CX0 (k + 1) f2 fd2 ["names", "one", "other"] (sp_uni28 K) := ok_uni28 D_united.F B
  have G_pairs_of : FnOk P w K mg base CX0 (k + 1) f3 fd3 ["table"] (sp_pairs K) := ok_pairs D_pairs_of.F B
  have G_level_between : FnOk P w K mg base CX0 (k + 1) f4 fd4 ["table", "one", "other"] (sp_lb K) := ok_lb D_level_between.F B
  refine F.ok sc_least_tree (fun vs H Q E h => ?_) (fun cdv A outer s H vs Q E hr h => ?_)
  · obtain ⟨tv, t, rfl, _⟩ := h
    rfl
  · obtain ⟨tv, t, rfl, hT, hW, h1, h12, q⟩ := h
    have nd := sc_least_tree.nd
    refine ⟨_, (pss_cons (ps_set (i := 1) nd rfl (.inl rfl) (pe_callB (cr_sortD hr.units) (by rfl) B.sorted (by decide +kernel) (pa_cons (pe_lc (own := [("one", 7), ("other", 8)]) (g := gTup K 2 (gCons (gName 7) (gCons (gName 8) gNil))) (tt := tYes) (te := tTup (tCons (tCall (sp_lb K) [] E0 (tCons (tVar 0) (tCons (tVar 7) (tCons (tVar 8) tNil)))) (tCons (tTup (tCons (tVar 7) (tCons (tVar 8) tNil))) tNil))) rfl nd (pi_tup (pe_cl D_pairs_of G_pairs_of hr (pa_cons (pv 0) pa_nil))) (blkOk_by (N := N_least_tree) (sc := defScope s_least_tree) (by decide +kernel))
            (fun _ _ _ _ _ => pg_tup rfl (pgs_cons (pg_name (i := 7) nd rfl (.inl rfl)) (pgs_cons (pg_name (i := 8) nd rfl (.inl rfl)) pgs_nil))) (fun _ _ _ _ _ => pts_nil) (fun _ _ _ _ _ => (pe_tup (pa_cons (pe_cl D_level_between G_level_between hr (pa_cons (pv 0) (pa_cons (pv 7) (pa_cons (pv 8) pa_nil)))) (pa_cons (pe_tup (pa_cons (pv 7) (pa_cons (pv 8) pa_nil))) pa_nil))))) pa_nil)))
      (pss_cons (ps_set (i := 2) nd rfl (.inl rfl) (pe_cl D_own_sets G_own_sets hr (pa_cons (pe_listRg rfl (by rfl) B.list (prg_1 (by rfl) B.range (pe_len B (pv 0)))) pa_nil)))
      (pss_cons (ps_set (i := 3) nd rfl (.inl rfl) (pe_lst pa_nil))
      (pss_cons (ps_for PassesOwn.never rfl (pi_list (pv 1)) (pg_tup rfl (pgs_cons (pg_name (i := 4) nd rfl (.inl rfl)) (pgs_cons (pg_tup rfl (pgs_cons (pg_name (i := 5) nd rfl (.inl rfl)) (pgs_cons (pg_name (i := 6) nd rfl (.inl rfl)) pgs_nil))) pgs_nil)))
      (pss_one (ps_if (pt_cmpR op_ne (pe_dget (hu28 hr) (pv 2) (pv 5) (fun _ _ => rfl)) (pe_dget (hu28 hr) (pv 2) (pv 6) (fun _ _ => rfl)) (nomark _))
      (pss_cons (ps_expr (pe_bm PySem.F.plainAttrs_list PySem.F.slot_list_append PySem.F.type_list_append mt_append (pv 3) (pa_cons (pe_tup (pa_cons (pv 5) (pa_cons (pv 6) pa_nil))) pa_nil)))
      (pss_one (ps_set (i := 2) nd rfl (.inl rfl) (pe_cl D_united G_united hr (pa_cons (pv 2) (pa_cons (pv 5) (pa_cons (pv 6) pa_nil)))))))
      pss_nil)))
      (pss_one (ps_ret (pe_callTy call_tuple_of (by rfl) B.tuple (by decide +kernel) (pa_cons (pe_callB (cr_sortD hr.units) (by rfl) B.sorted (by decide +kernel) (pa_cons (pv 3) pa_nil)) pa_nil)))))))), ?_⟩
    obtain ⟨n, hn⟩ : ∃ n, n = t.length := ⟨_, rfl⟩
    rw [← hn] at h1 h12
    obtain ⟨tp, rs, rfl, htp, hR⟩ := id hT
    have hrl : rs.length = n := by rw [hn]; exact hR.1
    have few : (ppre n n).length ≤ 66 := by
      have hf : ∀ k, k < 13 → (ppre k k).length ≤ 66 := by decide
      exact hf n (by omega)
    have hl2 : (2 : Nat) ≤ sizeLine := small1000 (Nat.le_of_ble_eq_true rfl)
    refine ⟨.ref tp, rfl, .ref tp, t, rfl, hT, by omega, fun H1 pp vs' s1 hpp hvs => ?_⟩
    rw [← hn] at hvs
    have vl := hvs.1
    refine ⟨pp, rfl, ⟨_, hpp⟩, fun ro hro => lc_tup (xs := vs') (fun i Hx => ∃ xs, Hx ro = some (.lst xs) ∧ LwA28 K t Hx xs ((ppre n n).take i) ∧ Sm H1 Hx) ⟨[], upd_same, ⟨by rw [List.take_zero]; rfl, fun i v j a b => by cases a⟩, Sm.new hro⟩ (fun i Hx _ hP => by obtain ⟨_, _, _, sx⟩ := hP; exact sx.sqT hpp) (fun i y Hx hy hP => ?_) (fun Hx hP => ?_)⟩
    · obtain ⟨xs, k1, k2, sx⟩ := hP
      have hi : i < (ppre n n).length := by
        have := (List.getElem?_eq_some_iff.mp hy).1
        omega
      obtain ⟨⟨a, b⟩, hab⟩ : ∃ e, (ppre n n)[i]? = some e := ⟨_, List.getElem?_eq_getElem hi⟩
      obtain ⟨g1, g2, g3⟩ := mem_ppre.mp (List.mem_of_getElem? hab)
      obtain ⟨ya, rfl, hya⟩ := (hvs.same sx).2 i y (a, b) hy hab
      refine ⟨ya, _, rfl, hya, rfl, _, _, rfl, _, _, rfl, rfl, rfl, ?_⟩
      refine ⟨.ref tp, rfl, .int (a : Int), rfl, .int (b : Int), rfl, .ref tp, t, a, b, rfl, hT.same (s1.trans sx), hW, by omega, by omega, .int (a : Int), rfl, .int (b : Int), rfl, hl2, fun q1 hq1 => ?_⟩
      have s2 : Sm Hx (upd Hx q1 (.tup [.int (a : Int), .int (b : Int)])) := Sm.new hq1
      have hq2 : SqT K (upd Hx q1 (.tup [.int (a : Int), .int (b : Int)])) q1 [.int (a : Int), .int (b : Int)] := SqT.of upd_same
      generalize upd Hx q1 (.tup [.int (a : Int), .int (b : Int)]) = H2 at s2 hq2
      refine ⟨hl2, fun q3 hq3 => ?_⟩
      have s3 : Sm H2 (upd H2 q3 (.tup [.int (lev t a b), .ref q1])) := Sm.new hq3
      have h3 : SqT K (upd H2 q3 (.tup [.int (lev t a b), .ref q1])) q3 [.int (lev t a b), .ref q1] := SqT.of upd_same
      have s23 := s2.trans s3
      have k17 := s23 _ _ k1
      have k27 := k2.same s23
      have sx7 := sx.trans s23
      have hq7 := s3.sqT hq2
      generalize upd H2 q3 (.tup [.int (lev t a b), .ref q1]) = H3 at h3 k17 k27 sx7 hq7
      have xl : xs.length ≤ 66 := by
        have := k2.1
        rw [List.length_take] at this
        omega
      refine ⟨_, k17, small1000 (by omega), _, upd_same, ?_, fun c u e => by rw [upd_ne (ne_of_none e hro)]; exact sx7 c u e⟩
      rw [List.take_add_one, hab]
      exact (k27.snoc (j := (a, b)) ⟨q3, q1, rfl, h3, hq7⟩).upd k17
    obtain ⟨xs, k1, k2, sx⟩ := hP
    rw [vl, List.take_length] at k2
    obtain ⟨L, g1, g2, g3, g4, g5, g6⟩ := sort_gen29 (K := K) (H := Hx) (Lw28 K t Hx) (lwD28 t) k2.1 k2.2 (fun v j h => h.dp) (lw_alike28 t) (fun j _ => ⟨_, _, rfl⟩) (lw_dep28 t)
    refine ⟨ro, L, rfl, by rw [g1]; exact SqL.of k1, g2, g3, g4, g5, fun L' bp pmL sr hbp => ?_⟩
    obtain ⟨ks, pk, ksr, yl, yT⟩ := g6 L' pmL sr
    generalize L'.map (·.1) = ys at yl yT
    have srt := srt_bef28 (pk.symm.nodup (ppre_nd n)) ksr
    have s8 := Sm.new (o := .lst ys) hbp
    have hbp8 : (upd Hx bp (.lst ys)) bp = some (.lst ys) := upd_same
    generalize upd Hx bp (.lst ys) = H8 at s8 hbp8
    refine nx_mk ?_
    have s18 := sx.trans s8
    have s08 := s1.trans s18
    refine ⟨.ref tp, rfl, tp, rs, rfl, .inr (s08.sqT htp), (rs.length : Int), rfl, RgOk.of_le (by decide) (by omega) (by decide) (by omega), fun lb hlb => ?_⟩
    rw [rg31 rs.length, hrl]
    have s9 := Sm.new (o := .lst ((rI n).map V.int)) hlb
    refine ⟨lb, n, rfl, SqL.of upd_same, by omega, fun H2 d0 s2 _ hd0 => ?_⟩
    have s82 := Sm.trans s9 s2
    have hbp2 := s82 _ _ hbp8
    have L0 : Lab n [] (rI n) := Lab.start n
    generalize rI n = ls0 at hd0 L0
    have s02 := s08.trans s82
    have sx2 : Sm Hx H2 := s8.trans s82
    refine nx_mk ?_
    refine ⟨Nat.zero_le _, fun fo hfo => ?_⟩
    have s3 : Sm H2 (upd H2 fo (.lst [])) := Sm.new hfo
    have hf3 : (upd H2 fo (.lst [])) fo = some (.lst []) := upd_same
    have hd3 := s3 _ _ hd0
    have hbp3 := s3 _ _ hbp2
    have nbp : bp ≠ fo := ne_of_none hbp2 hfo
    have nd0 : d0 ≠ fo := ne_of_none hd0 hfo
    have hfx : Hx fo = none := Sm.free sx2 hfo
    have hf0 : H fo = none := Sm.free s02 hfo
    have sx3 := sx2.trans s3
    have s03 := s02.trans s3
    generalize upd H2 fo (.lst []) = H3 at hf3 hd3 hbp3 sx3 s03
    refine nx_mk ?_
    refine ⟨.ref bp, rfl, bp, rfl, ⟨_, SqL.of hbp3⟩, for_list (xs := ys) (fun i σ Hy => ∃ x4 x5 x6 d ls zs E, σ = [some (.ref tp), some (.ref bp), some (.ref d), some (.ref fo), x4, x5, x6, none, none] ∧ Hy bp = some (.lst ys) ∧ Hy fo = some (.lst zs) ∧ Hy d = some (.dK (NmD ls)) ∧ Prs K Hy zs E ∧ Lab n E ls ∧ Tk28 t n ks i E ∧ Sm Hx Hy ∧ Sm H Hy)
      ⟨none, none, none, d0, ls0, [], [], rfl, hbp3, hf3, hd3, .nil, L0, .start t n ks, sx3, s03⟩ (fun i σ Hy _ hI => ?_) (fun i y σ Hy hy hI => ?_) (fun σ Hy hI => ?_)⟩
    · obtain ⟨_, _, _, _, _, _, _, _, h, _⟩ := hI
      exact SqL.of h
    · obtain ⟨x4, x5, x6, d, ls, zs, E, rfl, hb, hf, hd, hP, hL, hK, sy, sH⟩ := hI
      have hi : i < ks.length := by
        have := (List.getElem?_eq_some_iff.mp hy).1
        omega
      obtain ⟨⟨a, b⟩, hab⟩ : ∃ e, ks[i]? = some e := ⟨_, List.getElem?_eq_getElem hi⟩
      obtain ⟨p, qp, rfl, hp, hqp⟩ := yT i y _ hy hab
      obtain ⟨ha, hlt, hb'⟩ := mem_ppre.mp (show (a, b) ∈ ppre n n from pk.mem_iff.mp (List.mem_of_getElem? hab))
      have ll := hL.len
      refine ⟨p, _, rfl, sy.sqT hp, rfl, _, _, rfl, _, _, rfl, qp, _, rfl, sy.sqT hqp, rfl, _, _, rfl, _, _, rfl, rfl, rfl, ?_⟩
      refine ⟨.ref d, rfl, .int (a : Int), rfl, d, _, rfl, .inl ⟨_, Sum.inl (a : Int), .inl hd, rfl, (nmd_val (by omega)).symm⟩, .ref d, rfl, .int (b : Int), rfl, d, _, rfl, .inl ⟨_, Sum.inl (b : Int), .inl hd, rfl, (nmd_val (by omega)).symm⟩, rfl, _, rfl, ?_⟩
      by_cases hq : ls.getD a 0 = ls.getD b 0
      · rw [decide_eq_true (by rw [hq])]
        exact ⟨_, _, _, d, ls, zs, E, rfl, hb, hf, hd, hP, hL, hK.no srt hab ((hL.eq a b ha hb').mp hq), sy, sH⟩
      · rw [decide_eq_false (fun z => hq (V.int.inj z))]
        have no : ¬ Lk E a b := fun z => hq ((hL.eq a b ha hb').mpr z)
        have hK2 := hK.yes hab hlt hb' no
        have hL2 := hL.step2 ha hb'
        show _
        refine ⟨.ref fo, rfl, .inl ⟨rfl, _, SqL.of hf⟩, .int (a : Int), rfl, .int (b : Int), rfl, hl2, fun vp hvp => ?_⟩
        have t5 : Sm Hy (upd Hy vp (.tup [.int (a : Int), .int (b : Int)])) := Sm.new hvp
        have hv5 : SqT K (upd Hy vp (.tup [.int (a : Int), .int (b : Int)])) vp [.int (a : Int), .int (b : Int)] := SqT.of upd_same
        have hb5 := t5 _ _ hb
        have hf5 := t5 _ _ hf
        have hd5 := t5 _ _ hd
        have hP5 := hP.same t5
        have sy5 := sy.trans t5
        have sH5 := sH.trans t5
        generalize upd Hy vp (.tup [.int (a : Int), .int (b : Int)]) = H5 at hv5 hb5 hf5 hd5 hP5 sy5 sH5
        have zl : zs.length ≤ 12 := by
          have := hK.fo.few
          have := hP.1
          omega
        refine ⟨fo, zs, _, rfl, rfl, hf5, small1000 (by omega), ?_⟩
        have ndf : d ≠ fo := fun z => by rw [z, hf] at hd; cases hd
        have hP6 := (hP5.append (Prs.one hv5)).upd (zs := zs ++ [.ref vp]) hf5
        have hf6 : (upd H5 fo (.lst (zs ++ [.ref vp]))) fo = some (.lst (zs ++ [.ref vp])) := upd_same
        have hb6 : (upd H5 fo (.lst (zs ++ [.ref vp]))) bp = some (.lst ys) := by rw [upd_ne nbp]; exact hb5
        have hd6 : (upd H5 fo (.lst (zs ++ [.ref vp]))) d = some (.dK (NmD ls)) := by rw [upd_ne ndf]; exact hd5
        have sy6 : Sm Hx (upd H5 fo (.lst (zs ++ [.ref vp]))) := fun c o e => by
          rw [upd_ne (ne_of_none e hfx)]
          exact sy5 c o e
        have sH6 : Sm H (upd H5 fo (.lst (zs ++ [.ref vp]))) := fun c o e => by
          rw [upd_ne (ne_of_none e hf0)]
          exact sH5 c o e
        generalize upd H5 fo (.lst (zs ++ [.ref vp])) = H6 at hP6 hf6 hb6 hd6 sy6 sH6
        refine nx_mk ?_
        refine ⟨.ref d, rfl, .int (a : Int), rfl, .int (b : Int), rfl, d, ls, a, b, rfl, hd6, by omega, by omega, by omega, fun H7 e s7 _ he => ?_⟩
        exact ⟨_, _, _, e, _, _, _, rfl, s7 _ _ hb6, s7 _ _ hf6, he, hP6.same s7, hL2, hK2, sy6.trans s7, sH6.trans s7⟩
    · obtain ⟨x4, x5, x6, d, ls, zs, E, rfl, hb, hf, hd, hP, hL, hK, sy, sH⟩ := hI
      rw [yl] at hK
      refine nx_mk ?_
      obtain ⟨L2, g1, g2, g3, g4, g5, g6⟩ := srtP29 hP
      refine ⟨.ref fo, rfl, fo, L2, rfl, by rw [g1]; exact SqL.of hf, g2, g3, g4, g5, fun L' bq pmL sr hbq => ?_⟩
      obtain ⟨S, sp, srtS, hS⟩ := g6 L' pmL sr
      generalize L'.map (·.1) = us at hS
      have s1 := Sm.new (o := .lst us) hbq
      have hb1 : (upd Hy bq (.lst us)) bq = some (.lst us) := upd_same
      refine ⟨bq, _, rfl, .inl ⟨SqL.of hb1, fun l hl => ?_⟩⟩
      have s2 := s1.trans (Sm.new (o := .tup us) hl)
      rw [hn] at hK h1 pk
      exact q _ l us S (hK.kr h1 pk sp srtS) (sH.trans s2) (SqT.of upd_same) (hS.same s2)
end
section
variable {P : Program} {w : World} {K : PySem.W.Frag} {mg : Str → Option Value} {base : Heap}
/-! ### the program: is a value a least tree -/
noncomputable def leastB28 (t : List (List Int)) (x : PyData) : Bool := @decide (∃ T, Least t T ∧ x = prsD T) (Classical.propDecidable _)
theorem leastB_iff28 {t : List (List Int)} {x : PyData} : leastB28 t x = true ↔ ∃ T, Least t T ∧ x = prsD T := @decide_eq_true_iff _ (Classical.propDecidable _)
theorem leastB_no28 {t : List (List Int)} {x : PyData} (h : spanB29 t.length x = false) : leastB28 t x = false := by
  cases e : leastB28 t x with
  | false => rfl
  | true =>
    obtain ⟨T, hT, ex⟩ := leastB_iff28.mp e
    rw [span_iff29.mpr ⟨T, hT.span, ex⟩] at h
    cases h
theorem leastB_sum28 {t : List (List Int)} {S T : List (Nat × Nat)} (hS : Least t S) (hT : Span t.length T) : leastB28 t (prsD T) = decide (wsum t T = wsum t S) := by
  refine Bool.eq_iff_iff.mpr ?_
  rw [leastB_iff28, decide_eq_true_iff]
  constructor
  · rintro ⟨T', h, e⟩
    obtain rfl := rows_inj29 (PyData.tuple.inj e)
    have := h.le S hS.span
    have := hS.le T h.span
    omega
  · intro e
    exact ⟨T, ⟨hT, fun R hR => by rw [e]; exact hS.le R hR⟩, rfl⟩
def sp_isleast28 (K : PySem.W.Frag) : Sp := fun vs H Q _ => ∃ (ok : Addr → Prop) (tv v : V) (t : List (List Int)) (x : PyData), vs = [tv, v] ∧ TT K H tv t ∧ WT t ∧ 1 ≤ t.length ∧ t.length ≤ 12 ∧ Da K ok H v x ∧ ∀ H', Sm H H' → Q (.bl (leastB28 t x)) H'
set_option maxHeartbeats 8000000 in
theorem ok_isleast28 {f f1 f2 f3 : Addr} {fd fd1 fd2 fd3 : FuncData} (F : Fun K "is_least_tree" "is_least_tree" s_is_least_tree f fd) (D_is_spanning : Df K mg "is_spanning" s_is_spanning f1 fd1 ["table", "value"]) (D_sum_of : Df K mg "sum_of" s_sum_of f2 fd2 ["table", "tree"]) (D_least_tree : Df K mg "least_tree" s_least_tree f3 fd3 ["table"])
    (G_is_spanning : FnOk P w K mg base CX0 5 f1 fd1 ["table", "value"] (sp_isspan29 K)) (G_sum_of : FnOk P w K mg base CX0 5 f2 fd2 ["table", "tree"] (sp_sum28 K)) (G_least_tree : FnOk P w K mg base CX0 5 f3 fd3 ["table"] (sp_least28 K)) (B : Bi mg) : FnOk P w K mg base CX0 6 f fd ["table", "value"] (sp_isleast28 K) := by
  refine F.ok sc_is_least_tree (fun vs H Q E h => ?_) (fun cdv A outer s H vs Q E hr h => ?_)
  · obtain ⟨ok, tv, v, t, x, rfl, _⟩ := h
    rfl
  · obtain ⟨ok, tv, v, t, x, rfl, hT, hW, h1, h12, hd, q⟩ := h
    have nd := sc_is_least_tree.nd
    refine ⟨_, (pss_one (ps_ret (pe_and (pe_cl D_is_spanning G_is_spanning hr (pa_cons (pv 0) (pa_cons (pv 1) pa_nil))) (pe_one (pe_cmpR op_eq (pe_cl D_sum_of G_sum_of hr (pa_cons (pv 0) (pa_cons (pv 1) pa_nil))) (pe_cl D_sum_of G_sum_of hr (pa_cons (pv 0) (pa_cons (pe_cl D_least_tree G_least_tree hr (pa_cons (pv 0) pa_nil)) pa_nil))) (nomark _)))))), ?_⟩
    obtain ⟨tp, rs, rfl, htp, hR⟩ := id hT
    have hrl : rs.length = t.length := hR.1
    refine ⟨.ref tp, rfl, v, rfl, ok, tp, rs, v, x, rfl, htp, by omega, by omega, hd, fun H1 s1 => ?_⟩
    rw [hrl]
    cases hx : spanB29 t.length x with
    | false =>
      have := q H1 s1
      rw [leastB_no28 hx] at this
      exact ⟨_, rfl, this⟩
    | true =>
      obtain ⟨T, hS, rfl⟩ := span_iff29.mp hx
      have hd1 := hd.same s1
      cases hd1 with
      | @tup va vx _ hva hall =>
        have hP := prs_da29 hall
        have Tl : T.length ≤ 20 := by have := hS.len; omega
        refine ⟨_, rfl, ?_⟩
        refine ⟨.ref tp, rfl, .ref va, rfl, .ref tp, t, va, vx, T, rfl, hT.same s1, hW, by omega, hva, hP, hS.sub, Tl, fun H2 s2 => ?_⟩
        refine ⟨.ref tp, rfl, .ref tp, rfl, .ref tp, t, rfl, (hT.same s1).same s2, hW, h1, h12, fun H3 p3 v3 S hK s3 hp3 hP3 => ?_⟩
        have Sl : S.length ≤ 20 := by have := hK.span.len; omega
        refine ⟨.ref tp, t, p3, v3, S, rfl, ((hT.same s1).same s2).same s3, hW, by omega, hp3, hP3, hK.span.sub, Sl, fun H4 s4 => ?_⟩
        have := q H4 (s1.trans (s2.trans (s3.trans s4)))
        rw [leastB_sum28 hK.least hS] at this
        refine ⟨rfl, ?_⟩
        rw [show decide (V.int (wsum t T) = V.int (wsum t S)) = decide (wsum t T = wsum t S) from decide_eq_decide.mpr ⟨fun z => V.int.inj z, fun z => by rw [z]⟩]
        exact this
end
section
variable {P : Program} {w : World} {K : PySem.W.Frag} {mg : Str → Option Value} {base : Heap}
/-! ### the law: the lowest tree -/
def sp_wsumL (K : PySem.W.Frag) : Sp := fun vs H Q _ => ∃ (tv : V) (t : List (List Int)) (p : Addr) (ws : List V) (E : List (Nat × Nat)), vs = [tv, .ref p] ∧ TT K H tv t ∧ WT t ∧ t.length ≤ 20 ∧ SqL K H p ws ∧ Prs K H ws E ∧ (∀ e ∈ E, e ∈ ppre t.length t.length) ∧ E.length ≤ 20 ∧ ∀ H', Sm H H' → Q (.int (wsum t E)) H'
theorem ok_wsumL {f fL : Addr} {fd fdL : FuncData} {k : Nat} (F : Fun K "_law_sum" "_law_sum" s_L_sum f fd) (D_L_level : Df K mg "_law_level" s_L_level fL fdL ["_law_table_here", "_law_one_here", "_law_other"]) (B : Bi mg) : FnOk P w K mg base CX0 (k + 2) f fd ["_law_table_here", "_law_pairs_here"] (sp_wsumL K) := by
  have G_L_level : FnOk P w K mg base CX0 (k + 1) fL fdL ["_law_table_here", "_law_one_here", "_law_other"] (sp_level K) := ok_level D_L_level.F B
  refine F.ok sc_L_sum (fun vs H Q E h => ?_) (fun cdv A outer s H vs Q E hr h => ?_)
  · obtain ⟨tv, t, p, ws, E, rfl, _⟩ := h
    rfl
  · obtain ⟨tv, t, p, ws, Ed, rfl, hT, hW, h20, hp, hP, hin, hl, q⟩ := h
    have nd := sc_L_sum.nd
    refine ⟨_, (pss_one (ps_ret (pe_callB (cr_sum rfl) (by rfl) B.sum (by decide +kernel) (pa_cons (pe_lc (own := [("_law_one_here", 2), ("_law_other", 3)]) (g := gTup K 2 (gCons (gName 2) (gCons (gName 3) gNil))) (tt := tYes) (te := tCall (sp_level K) [] E0 (tCons (tVar 0) (tCons (tVar 2) (tCons (tVar 3) tNil)))) rfl nd (pi_list (pv 1)) (blkOk_by (N := N_L_sum) (sc := defScope s_L_sum) (by decide +kernel))
            (fun _ _ _ _ _ => pg_tup rfl (pgs_cons (pg_name (i := 2) nd rfl (.inl rfl)) (pgs_cons (pg_name (i := 3) nd rfl (.inl rfl)) pgs_nil))) (fun _ _ _ _ _ => pts_nil) (fun _ _ _ _ _ => (pe_cl D_L_level G_L_level hr (pa_cons (pv 0) (pa_cons (pv 2) (pa_cons (pv 3) pa_nil)))))) pa_nil)))), ?_⟩
    obtain ⟨tp, rs, rfl, htp, hR⟩ := id hT
    refine ⟨.ref p, rfl, p, rfl, ⟨_, hp⟩, fun D hD => lc_list (xs := ws) (fun m Hy => Hy D = some (.lst (((Ed.take m).map fun e => lev t e.1 e.2).map V.int)) ∧ Sm H Hy) ⟨upd_same, Sm.new hD⟩ (fun m Hy _ hQ => hQ.2.sqL hp) (fun m y Hy hy hQ => ?_) (fun Hy hQ => ?_)⟩
    · obtain ⟨g1, sy⟩ := hQ
      have hm : m < Ed.length := by rw [← hP.1]; exact (List.getElem?_eq_some_iff.mp hy).1
      obtain ⟨⟨a, b⟩, hab⟩ : ∃ ab, Ed[m]? = some ab := ⟨_, List.getElem?_eq_getElem hm⟩
      obtain ⟨pa, rfl, hpa⟩ := hP.2 m y (a, b) hy hab
      obtain ⟨ha, hlt, hb⟩ := mem_ppre.mp (hin _ (List.mem_of_getElem? hab))
      refine ⟨pa, _, rfl, sy.sqT hpa, rfl, _, _, rfl, _, _, rfl, rfl, rfl, ?_⟩
      refine ⟨.ref tp, rfl, .int (a : Int), rfl, .int (b : Int), rfl, tp, rs, t, a, b, rfl, .inr (sy.sqT htp), hR.same sy, hW, ha, hb, ?_⟩
      refine ⟨_, g1, by rw [List.length_map, List.length_map, List.length_take]; exact small1000 (by omega), ?_, fun cc o e => by rw [upd_ne (ne_of_none e hD)]; exact sy cc o e⟩
      rw [upd_same, List.take_add_one, hab, List.map_append, List.map_append]
      rfl
    · obtain ⟨g1, sy⟩ := hQ
      rw [hP.1, List.take_length] at g1
      exact ⟨D, _, rfl, SqL.of g1, q _ sy⟩
/-- a row of level, rank and pair -/
def Rw29 (K : PySem.W.Frag) (H : Hp) (v : V) (j : Int × Int × Nat × Nat) : Prop := ∃ p q, v = .ref p ∧ SqT K H p [.int j.1, .int j.2.1, .ref q] ∧ SqT K H q [.int (j.2.2.1 : Int), .int (j.2.2.2 : Int)]
theorem Rw29.same {H H' : Hp} {v : V} {j : Int × Int × Nat × Nat} (h : Rw29 K H v j) (s : Sm H H') : Rw29 K H' v j := by
  obtain ⟨p, q, h1, h2, h3⟩ := h
  exact ⟨p, q, h1, s.sqT h2, s.sqT h3⟩
def rwD29 (j : Int × Int × Nat × Nat) : PyData := .tuple [.int j.1, .int j.2.1, rowD (e2 j.2.2)]
theorem Rw29.dp {H : Hp} {v : V} {j : Int × Int × Nat × Nat} (h : Rw29 K H v j) : Dp K H v (rwD29 j) := by
  obtain ⟨p, q, rfl, h2, h3⟩ := h
  exact .tup h2 (.cons (.int _) (.cons (.int _) (.cons (dp_tup h3) .nil)))
theorem rw_alike29 (p q : Int × Int × Nat × Nat) : PySem.W.alike (rwD29 p) (rwD29 q) = true := by
  unfold rwD29
  simp only [PySem.W.alike, PySem.W.alikeAll, Bool.and_true, Bool.true_and]
  exact alike_row _ _
theorem rw_dep29 (p : Int × Int × Nat × Nat) : (rwD29 p).depth ≤ 60 := by
  have h : (rowD (e2 p.2.2)).depth = 1 := rfl
  unfold rwD29
  simp only [PyData.depth, PyData.depthAll, h]
  omega
def RwA29 (K : PySem.W.Frag) (H : Hp) (xs : List V) (js : List (Int × Int × Nat × Nat)) : Prop := xs.length = js.length ∧ ∀ (i : Nat) v j, xs[i]? = some v → js[i]? = some j → Rw29 K H v j
theorem RwA29.same {H H' : Hp} {xs : List V} {js : List (Int × Int × Nat × Nat)} (h : RwA29 K H xs js) (s : Sm H H') : RwA29 K H' xs js := ⟨h.1, fun i v j a b => (h.2 i v j a b).same s⟩
theorem RwA29.upd {H : Hp} {p : Addr} {ys zs : List V} {xs : List V} {js : List (Int × Int × Nat × Nat)} (h : RwA29 K H xs js) (hp : H p = some (.lst ys)) : RwA29 K (L2.upd H p (.lst zs)) xs js :=
  ⟨h.1, fun i v j a b => by
    obtain ⟨p, q, h1, h2, h3⟩ := h.2 i v j a b
    exact ⟨p, q, h1, sqT_upd hp h2, sqT_upd hp h3⟩⟩
theorem RwA29.snoc {H : Hp} {v : V} {j : Int × Int × Nat × Nat} {xs : List V} {js : List (Int × Int × Nat × Nat)} (h : RwA29 K H xs js) (g : Rw29 K H v j) : RwA29 K H (xs ++ [v]) (js ++ [j]) := by
  refine ⟨by rw [List.length_append, List.length_append, h.1]; rfl, fun i u k a b => ?_⟩
  rcases Nat.lt_or_ge i xs.length with z | z
  · rw [List.getElem?_append_left z] at a
    rw [List.getElem?_append_left (by rw [← h.1]; exact z)] at b
    exact h.2 i u k a b
  · rw [List.getElem?_append_right z] at a
    rw [List.getElem?_append_right (by rw [← h.1]; exact z)] at b
    have e : i - xs.length = 0 := by
      have := (List.getElem?_eq_some_iff.mp a).1
      simp at this
      omega
    rw [e] at a
    rw [← h.1, e] at b
    obtain rfl : v = u := Option.some.inj a
    obtain rfl : j = k := Option.some.inj b
    exact g
end
section
variable {P : Program} {w : World} {K : PySem.W.Frag} {mg : Str → Option Value} {base : Heap}
/-! ### the law: some tree -/
theorem min_of29 (u v : Nat) : (if (v : Int) < (u : Int) then (v : Int) else (u : Int)) = ((min u v : Nat) : Int) := by
  by_cases h : v < u
  · rw [if_pos (by omega), Nat.min_eq_right (by omega)]
  · rw [if_neg (by omega), Nat.min_eq_left (by omega)]
theorem max_of29 (u v : Nat) : (if (v : Int) > (u : Int) then (v : Int) else (u : Int)) = ((max u v : Nat) : Int) := by
  by_cases h : v > u
  · rw [if_pos (by omega), Nat.max_eq_right (by omega)]
  · rw [if_neg (by omega), Nat.max_eq_left (by omega)]
def sp_some29 (K : PySem.W.Frag) : Sp := fun vs H Q _ => ∃ (d c r : Addr) (m n : Nat), vs = [.ref d, .int (n : Int)] ∧ Dr H d c r m ∧ m ≤ 600000 ∧ 1 ≤ n ∧ n ≤ 12 ∧
  ∀ (H' : Hp) (p : Addr) (vs' : List V) (T : List (Nat × Nat)), Span n T → SqT K H' p vs' → Prs K H' vs' T → Dr H' d c r (m + 40) → Kp d r H H' → Q (.ref p) H'
set_option maxHeartbeats 8000000 in
theorem ok_some29 {f fN fS : Addr} {fd fdN fdS : FuncData} (F : Fun K "_law_some_tree" "_law_some_tree" s_L_some_tree f fd) (D_L_shuffled : Df K mg "_law_shuffled" s_L_shuffled fS fdS ["_law_drawn", "_law_count_here"]) (D_L_next : Df K mg "_law_next" s_L_next fN fdN ["_law_drawn", "_law_many"]) (B : Bi mg) : FnOk P w K mg base CX0 3 f fd ["_law_drawn", "_law_count_here"] (sp_some29 K) := by
  have G_L_next : FnOk P w K mg base CX0 2 fN fdN ["_law_drawn", "_law_many"] sp_next := ok_next D_L_next.F B
  have G_L_shuffled : FnOk P w K mg base CX0 2 fS fdS ["_law_drawn", "_law_count_here"] (sp_shuf29 K) := ok_shuf29 D_L_shuffled.F D_L_next B
  refine F.ok sc_L_some_tree (fun vs H Q E h => ?_) (fun cdv A outer s H vs Q E hr h => ?_)
  · obtain ⟨d, c, r, m, n, rfl, _⟩ := h
    rfl
  · obtain ⟨d, c, r, m, n, rfl, hD, hm, h1, h12, q⟩ := h
    have nd := sc_L_some_tree.nd
    refine ⟨_, (pss_cons (ps_par3 (i := 2) (j := 3) (l := 4) rfl nd rfl rfl rfl (by decide) (by decide) (by decide) rfl rfl rfl (pa_cons (pe_cl D_L_shuffled G_L_shuffled hr (pa_cons (pv 0) (pa_cons (pv 1) pa_nil))) (pa_cons (pe_cl D_L_next G_L_next hr (pa_cons (pv 0) (pa_cons pe_int pa_nil))) (pa_cons (pe_lst pa_nil) pa_nil))) rfl)
      (pss_cons (ps_for PassesOwn.never rfl (pi_range2 rfl B.range (pa_cons pe_int (pa_cons (pv 1) pa_nil))) (pg_name (i := 5) nd rfl (.inl rfl))
      (pss_cons (ps_set (i := 6) nd rfl (.inl rfl) (pe_ix ix_list (pv 2) (pe_ix ix_list (pe_lst (pa_cons (pe_cl D_L_next G_L_next hr (pa_cons (pv 0) (pa_cons (pv 5) pa_nil))) (pa_cons (pe_cl D_L_next G_L_next hr (pa_cons (pv 0) (pa_cons (pv 5) pa_nil))) (pa_cons (pe_op op_sub (pv 5) pe_int) (pa_cons pe_int pa_nil))))) (pv 3) (fun _ _ => rfl)) (fun _ _ => rfl)))
      (pss_one (ps_expr (pe_bm PySem.F.plainAttrs_list PySem.F.slot_list_append PySem.F.type_list_append mt_append (pv 4) (pa_cons (pe_tup (pa_cons (pe_callB (call_min2 rfl) (by rfl) B.min (by decide +kernel) (pa_cons (pv 6) (pa_cons (pe_ix ix_list (pv 2) (pv 5) (fun _ _ => rfl)) pa_nil))) (pa_cons (pe_callB (call_max2 rfl) (by rfl) B.max (by decide +kernel) (pa_cons (pv 6) (pa_cons (pe_ix ix_list (pv 2) (pv 5) (fun _ _ => rfl)) pa_nil))) pa_nil))) pa_nil))))))
      (pss_one (ps_ret (pe_callTy call_tuple_of (by rfl) B.tuple (by decide +kernel) (pa_cons (pe_callB (cr_sortD hr.units) (by rfl) B.sorted (by decide +kernel) (pa_cons (pv 4) pa_nil)) pa_nil)))))), ?_⟩
    refine ⟨.ref d, rfl, .int (n : Int), rfl, d, c, r, m, n, rfl, hD, by omega, by omega, fun H1 np os hnp hos pm D1 kp1 => ?_⟩
    have nnp := hD.ne hnp
    have ol : os.length = n := by rw [pm.length_eq, List.length_range]
    have ond : os.Nodup := pm.symm.nodup List.nodup_range
    have olt : ∀ x ∈ os, x < n := fun x hx => List.mem_range.mp (pm.mem_iff.mp hx)
    refine ⟨.ref d, rfl, d, c, r, _, 4, rfl, D1, by omega, by decide, by decide, fun H2 wy hwy D2 kp2 => ?_⟩
    have hos2 : H2 np = some (.lst (nI os)) := kp2 np _ hos nnp.1 nnp.2.2
    have kp02 := kp1.trans kp2
    refine ⟨Nat.zero_le _, fun fo hfo => ?_⟩
    have nfo := D2.ne hfo
    have nfp : fo ≠ np := fun e => by rw [e, hos2] at hfo; cases hfo
    have hos3 := (Sm.new (o := .lst []) hfo) _ _ hos2
    have kp03 := kp02.trans (Kp.new (o := .lst []) hfo)
    have D3 := D2.new (o := .lst []) hfo
    have hfo3 : (upd H2 fo (.lst [])) fo = some (.lst []) := upd_same
    generalize upd H2 fo (.lst []) = H3 at hos3 kp03 D3 hfo3
    refine ⟨_, _, _, rfl, ?_⟩
    refine ⟨.int (n : Int), rfl, 1, _, rfl, ⟨by omega, by omega, by omega, by omega⟩, ?_⟩
    refine for_range (lo := 1) (n := ((n : Int) - 1).toNat) (fun i σ Hx => ∃ x5 x6 xs E, σ = [some (.ref d), some (.int (n : Int)), some (.ref np), some (.int (wy : Int)), some (.ref fo), x5, x6] ∧ Hx np = some (.lst (nI os)) ∧ Hx fo = some (.lst xs) ∧ Prs K Hx xs E ∧ Gw29 n os (i + 1) E ∧ Dr Hx d c r (m + n + 1 + 2 * i) ∧ Kp d r H Hx)
      ⟨none, none, [], [], rfl, hos3, hfo3, .nil, .start n os, D3, kp03⟩ (fun i σ Hx hi hI => ?_) (fun σ Hx hI => ?_)
    · obtain ⟨x5, x6, xs, E, rfl, ho, hf, hP, hG, Dx, kx⟩ := hI
      obtain ⟨k, hk⟩ : ∃ k, k = i + 1 := ⟨_, rfl⟩
      have hkn : k < n := by omega
      have hxl := hP.1
      have hfew := hG.fo.few
      rw [show (1 : Int) + (i : Int) = (k : Int) by omega]
      rw [← hk] at hG
      refine ⟨.ref np, rfl, .ref d, rfl, .int (k : Int), rfl, d, c, r, _, (k : Int), rfl, Dx, by omega, by omega, by omega, fun H4 j1 l1 D4 kp4 => ?_⟩
      refine ⟨.ref d, rfl, .int (k : Int), rfl, d, c, r, _, (k : Int), rfl, D4, by omega, by omega, by omega, fun H5 j2 l2 D5 kp5 => ?_⟩
      have hl5 : (4 : Nat) ≤ sizeLine := small1000 (Nat.le_of_ble_eq_true rfl)
      refine ⟨.int (k : Int), rfl, _, _, rfl, rfl, hl5, fun lp hlp => ?_⟩
      have nlp := D5.ne hlp
      have D6 := D5.new (o := .lst [.int (j1 : Int), .int (j2 : Int), .int ((k : Int) - 1), .int 0]) hlp
      have ho5 : H5 np = some (.lst (nI os)) := kp5 np _ (kp4 np _ ho nnp.1 nnp.2.2) nnp.1 nnp.2.2
      have hf5 : H5 fo = some (.lst xs) := kp5 fo _ (kp4 fo _ hf nfo.1 nfo.2.2) nfo.1 nfo.2.2
      have hP5 : Prs K H5 xs E := (hP.kp Dx kp4).kp D4 kp5
      have kx5 := (kx.trans kp4).trans kp5
      have s6 : Sm H5 (upd H5 lp (.lst [.int (j1 : Int), .int (j2 : Int), .int ((k : Int) - 1), .int 0])) := Sm.new hlp
      have hlp6 : (upd H5 lp (.lst [.int (j1 : Int), .int (j2 : Int), .int ((k : Int) - 1), .int 0])) lp = some (.lst [.int (j1 : Int), .int (j2 : Int), .int ((k : Int) - 1), .int 0]) := upd_same
      have ho6 := s6 _ _ ho5
      have hf6 := s6 _ _ hf5
      have hP6 := hP5.same s6
      have kx6 := kx5.trans s6.kp
      generalize upd H5 lp (.lst [.int (j1 : Int), .int (j2 : Int), .int ((k : Int) - 1), .int 0]) = H6 at D6 s6 hlp6 ho6 hf6 hP6 kx6
      obtain ⟨j, hj, hjk⟩ : ∃ j : Nat, ([V.int (j1 : Int), .int (j2 : Int), .int ((k : Int) - 1), .int 0])[wy]? = some (.int (j : Int)) ∧ j < k := by
        have hw : wy < 4 := by omega
        match wy, hw with
        | 0, _ => exact ⟨j1, rfl, by omega⟩
        | 1, _ => exact ⟨j2, rfl, by omega⟩
        | 2, _ => exact ⟨k - 1, by show some (V.int ((k : Int) - 1)) = _; rw [show ((k : Int) - 1) = ((k - 1 : Nat) : Int) by omega], by omega⟩
        | 3, _ => exact ⟨0, rfl, by omega⟩
      refine ⟨.int (wy : Int), rfl, lp, _, _, _, rfl, rfl, SqL.of hlp6, atI_nat hj, ?_⟩
      refine ⟨np, _, _, _, rfl, rfl, SqL.of ho6, atI_nat (nI_at (by omega : j < os.length)), ?_⟩
      have hju : os.getD j 0 ∈ os.take k := by
        rw [List.getD_eq_getElem?_getD, List.getElem?_eq_getElem (by omega : j < os.length)]
        exact List.mem_take_iff_getElem.mpr ⟨j, by omega, rfl⟩
      have hkv : os[k]? = some (os.getD k 0) := by
        rw [List.getD_eq_getElem?_getD, List.getElem?_eq_getElem (by omega : k < os.length)]
        rfl
      have hG2 := hG.step ond olt hkv hju
      generalize os.getD j 0 = u at hju hG2
      have hkn2 : (nI os)[k]? = some (.int ((os.getD k 0 : Nat) : Int)) := nI_at (by omega)
      generalize os.getD k 0 = v at hkv hG2 hkn2
      show _
      refine ⟨.ref fo, rfl, .inl ⟨rfl, _, SqL.of hf6⟩, .int (u : Int), rfl, .ref np, rfl, .int (k : Int), rfl, np, _, _, _, rfl, rfl, SqL.of ho6, atI_nat hkn2, _, _, rfl, ?_⟩
      rw [min_of29]
      refine ⟨.int (u : Int), rfl, .ref np, rfl, .int (k : Int), rfl, np, _, _, _, rfl, rfl, SqL.of ho6, atI_nat hkn2, _, _, rfl, ?_⟩
      rw [max_of29]
      have hl2 : (2 : Nat) ≤ sizeLine := small1000 (Nat.le_of_ble_eq_true rfl)
      refine ⟨hl2, fun tp htp => ?_⟩
      have s7 : Sm H6 (upd H6 tp (.tup [.int ((min u v : Nat) : Int), .int ((max u v : Nat) : Int)])) := Sm.new htp
      have htp7 : SqT K (upd H6 tp (.tup [.int ((min u v : Nat) : Int), .int ((max u v : Nat) : Int)])) tp [.int ((min u v : Nat) : Int), .int ((max u v : Nat) : Int)] := SqT.of upd_same
      have ho7 := s7 _ _ ho6
      have hf7 := s7 _ _ hf6
      have hP7 := hP6.same s7
      have D7 := D6.same s7
      have kx7 := kx6.trans s7.kp
      generalize upd H6 tp (.tup [.int ((min u v : Nat) : Int), .int ((max u v : Nat) : Int)]) = H7 at htp7 ho7 hf7 hP7 D7 kx7
      refine ⟨fo, xs, _, rfl, rfl, hf7, small1000 (by omega), ?_⟩
      refine ⟨_, _, xs ++ [.ref tp], E ++ [(min u v, max u v)], rfl, ?_, upd_same, ?_, ?_, (D7.upd nfo.1 nfo.2.1 nfo.2.2).mono (by omega), fun b o e n1 n2 => ?_⟩
      · rw [upd_ne nfp.symm]
        exact ho7
      · exact (hP7.append (Prs.one htp7)).upd hf7
      · rw [show i + 1 + 1 = k + 1 by omega]
        exact hG2
      · rw [upd_ne (fun z => by
          subst z
          have := kp02 _ _ e n1 n2
          rw [hfo] at this
          cases this)]
        exact kx7 b o e n1 n2
    · obtain ⟨x5, x6, xs, E, rfl, ho, hf, hP, hG, Dx, kx⟩ := hI
      rw [show ((n : Int) - 1).toNat + 1 = n by omega] at hG
      have cn := hG.conn pm
      show _
      obtain ⟨L, g1, g2, g3, g4, g5, g6⟩ := srtP29 hP
      refine ⟨.ref fo, rfl, fo, L, rfl, by rw [g1]; exact SqL.of hf, g2, g3, g4, g5, fun L' b pmL sr hb => ?_⟩
      obtain ⟨S, sp, srt, hS⟩ := g6 L' pmL sr
      generalize L'.map (·.1) = ys at hS
      have s1 := Sm.new (o := .lst ys) hb
      have hb1 : (upd Hx b (.lst ys)) b = some (.lst ys) := upd_same
      refine ⟨b, _, rfl, .inl ⟨SqL.of hb1, fun l hl => ?_⟩⟩
      have s2 := s1.trans (Sm.new (o := .tup ys) hl)
      exact q _ l ys S (hG.fo.span h1 cn sp srt) (SqT.of upd_same) (hS.same s2) ((Dx.same s2).mono (by omega)) (kx.trans s2.kp)
end
section
variable {P : Program} {w : World} {K : PySem.W.Frag} {mg : Str → Option Value} {base : Heap}
/-! ### the law: all trees -/
def RowP (K : PySem.W.Frag) (H : Hp) (v : V) (row : List (Nat × Nat)) : Prop := ∃ a ws, v = .ref a ∧ SqT K H a ws ∧ Prs K H ws row
theorem RowP.same {H H' : Hp} {v : V} {row : List (Nat × Nat)} (h : RowP K H v row) (e : Sm H H') : RowP K H' v row := by
  obtain ⟨a, ws, h1, h2, h3⟩ := h
  exact ⟨a, ws, h1, e.sqT h2, h3.same e⟩
theorem RowP.st {H : Hp} {v : V} {row : List (Nat × Nat)} {l : Addr} {ys zs : List V} (h : RowP K H v row) (hl : H l = some (.lst ys)) : RowP K (upd H l (.lst zs)) v row := by
  obtain ⟨a, ws, h1, h2, h3⟩ := h
  exact ⟨a, ws, h1, sqT_upd hl h2, h3.upd hl⟩
abbrev Trs (K : PySem.W.Frag) (H : Hp) (vs : List V) (rows : List (List (Nat × Nat))) : Prop := Als (RowP K H) vs rows
theorem Trs.same {H H' : Hp} {vs : List V} {rows : List (List (Nat × Nat))} (h : Trs K H vs rows) (e : Sm H H') : Trs K H' vs rows := Als.mono h fun _ _ r => r.same e
theorem Trs.st {H : Hp} {vs : List V} {rows : List (List (Nat × Nat))} {l : Addr} {ys zs : List V} (h : Trs K H vs rows) (hl : H l = some (.lst ys)) : Trs K (upd H l (.lst zs)) vs rows := Als.mono h fun _ _ r => r.st hl
theorem gtB_int (p q : Nat × Nat) : (if (p.1 : Int) = (q.1 : Int) then decide ((q.2 : Int) < (p.2 : Int)) else decide ((q.1 : Int) < (p.1 : Int))) = gtB p q := by
  refine Bool.eq_iff_iff.mpr ?_
  rw [gtB_iff]
  unfold Plt
  split
  · rw [decide_eq_true_iff]; omega
  · rw [decide_eq_true_iff]; omega
theorem flat_few {n k j : Nat} (hn : n < 6) (hk : k + 1 < 5) : (((allR n k).take j).flatMap (ext n)).length ≤ 210 := by
  have e : allR n (k + 1) = ((allR n k).take j).flatMap (ext n) ++ ((allR n k).drop j).flatMap (ext n) := by
    rw [← List.flatMap_append, List.take_append_drop]
    rfl
  have a := allR_few n hn (k + 1) hk
  rw [e, List.length_append] at a
  omega
theorem prs_last {H : Hp} {ws : List V} {row : List (Nat × Nat)} (h : Prs K H ws row) {q : Nat × Nat} (hq : row.getLast? = some q) : ∃ a, atI ws (-1) = some (.ref a) ∧ SqT K H a [.int (q.1 : Int), .int (q.2 : Int)] := by
  rw [List.getLast?_eq_getElem?] at hq
  have hl : 0 < row.length := by
    rcases Nat.eq_zero_or_pos row.length with z | z
    · rw [List.eq_nil_of_length_eq_zero z] at hq; cases hq
    · exact z
  have h1 := h.1
  have hw : row.length - 1 < ws.length := by omega
  obtain ⟨a, e, hs⟩ := h.2 (row.length - 1) _ q (List.getElem?_eq_getElem hw) hq
  refine ⟨a, ?_, hs⟩
  rw [← e]
  exact atI_lastN (m := row.length - 1) (by omega) (List.getElem?_eq_getElem hw)
def sp_trees (K : PySem.W.Frag) : Sp := fun vs H Q _ => ∃ (n : Nat), vs = [.int (n : Int)] ∧ 1 ≤ n ∧ n < 6 ∧ ∀ (H' : Hp) (p : Addr) (vs' : List V), Sm H H' → H' p = some (.lst vs') → Trs K H' vs' (spanR n) → Q (.ref p) H'
theorem ok_trees {f fP fC : Addr} {fd fdP fdC : FuncData} {k : Nat} (F : Fun K "_law_all_trees" "_law_all_trees" s_L_all_trees f fd) (D_L_pairs : Df K mg "_law_pairs" s_L_pairs fP fdP ["_law_count_here"]) (D_L_is_connected : Df K mg "_law_is_connected" s_L_is_connected fC fdC ["_law_count_here", "_law_pairs_here"]) (B : Bi mg) : FnOk P w K mg base CX0 (k + 2) f fd ["_law_count_here"] (sp_trees K) := by
  have G_L_pairs : FnOk P w K mg base CX0 (k + 1) fP fdP ["_law_count_here"] (sp_Lpairs K) := ok_Lpairs D_L_pairs.F B
  have G_L_is_connected : FnOk P w K mg base CX0 (k + 1) fC fdC ["_law_count_here", "_law_pairs_here"] (sp_conn K) := ok_conn D_L_is_connected.F B
  refine F.ok sc_L_all_trees (fun vs H Q E h => ?_) (fun cdv A outer s H vs Q E hr h => ?_)
  · obtain ⟨n, rfl, _⟩ := h
    rfl
  · obtain ⟨n, rfl, hn1, hn6, q⟩ := h
    have nd := sc_L_all_trees.nd
    refine ⟨_, (pss_cons (ps_set (i := 1) nd rfl (.inl rfl) (pe_lst (pa_cons (pe_tup pa_nil) pa_nil)))
      (pss_cons (ps_for PassesOwn.never rfl (pi_range1 rfl B.range (pa_cons (pe_op op_sub (pv 0) pe_int) pa_nil)) (pg_name (i := 2) nd rfl (.inl rfl))
      (pss_cons (ps_set (i := 3) nd rfl (.inl rfl) (pe_lst pa_nil))
      (pss_cons (ps_for PassesOwn.never rfl (pi_list (pv 1)) (pg_name (i := 4) nd rfl (.inr rfl))
      (pss_one (ps_expr (pe_bm PySem.F.plainAttrs_list PySem.F.slot_list_extend PySem.F.type_list_extend mt_extend (pv 3) (pa_cons (pe_lc (own := [("_law_pair", 5)]) (g := gName 5) (tt := tOr (tTest (tOp (rEqNil K) (tVar 4) (tTup tNil))) (tTest (tOp (rGtP K) (tVar 5) (tOp (rIxT K) (tVar 4) (tUn (rU fun i => .int (-i)) (tC (.int 1))))))) (te := tOp (rCatW K) (tVar 4) (tTup (tCons (tVar 5) tNil))) rfl nd (pi_list (pe_cl D_L_pairs G_L_pairs hr (pa_cons (pv 0) pa_nil))) (blkOk_by (N := N_L_all_trees) (sc := defScope s_L_all_trees) (by decide +kernel))
            (fun _ _ _ _ _ => pg_name (i := 5) nd rfl (.inl rfl)) (fun _ _ _ _ _ => pts_one (PW.pt (pw_or (pt_cmpR (op_eqNil hr.units) (pv 4) (pe_tup pa_nil) (nomark _)) (pw_or1 (pt_cmpR (op_gtP (Nat.lt_of_le_of_lt (Nat.le_add_right _ 64) hr.units)) (pv 5) (pe_ix ix_tup (pv 4) (pe_un un_neg pe_int) (fun _ _ => rfl)) (nomark _)))))) (fun _ _ _ _ _ => (pe_op op_catW (pv 4) (pe_tup (pa_cons (pv 5) pa_nil))))) pa_nil)))))
      (pss_one (ps_set (i := 1) nd rfl (.inl rfl) (pv 3))))))
      (pss_one (ps_ret (pe_lc (own := [("_law_row", 4)]) (g := gName 4) (tt := tB (tCall (sp_conn K) [] E0 (tCons (tVar 0) (tCons (tVar 4) tNil)))) (te := tVar 4) rfl nd (pi_list (pv 1)) (blkOk_by (N := N_L_all_trees) (sc := defScope s_L_all_trees) (by decide +kernel))
            (fun _ _ _ _ _ => pg_name (i := 4) nd rfl (.inl rfl)) (fun _ _ _ _ _ => pts_one (pt_val (pe_cl D_L_is_connected G_L_is_connected hr (pa_cons (pv 0) (pa_cons (pv 4) pa_nil))))) (fun _ _ _ _ _ => (pv 4))))))), ?_⟩
    refine ⟨Nat.zero_le _, fun p0 hp0 => ⟨(by show 1 ≤ sizeLine; decide), fun l0 hl0 => ?_⟩⟩
    have s0 := Sm.new (o := .tup []) hp0
    have q0 : SqT K (upd H p0 (.tup [])) p0 [] := SqT.of upd_same
    generalize upd H p0 (.tup []) = H0 at s0 q0 hl0
    have s1 := Sm.new (o := .lst [.ref p0]) hl0
    have e1 : (upd H0 l0 (.lst [.ref p0])) l0 = some (.lst [.ref p0]) := upd_same
    have T0 : Trs K (upd H0 l0 (.lst [.ref p0])) [.ref p0] (allR n 0) := Als.one ⟨p0, [], rfl, s1.sqT q0, Prs.nil⟩
    have s01 := s0.trans s1
    generalize upd H0 l0 (.lst [.ref p0]) = H1 at e1 T0 s01
    refine nx_mk ?_
    refine ⟨.int (n : Int), rfl, _, _, rfl, rfl, _, rfl, by omega, by omega, for_range (n := ((n : Int) - 1).toNat) (fun i σ Hx => ∃ lr vs x2 x3 x4, σ = [some (.int (n : Int)), some (.ref lr), x2, x3, x4, none] ∧ Hx lr = some (.lst vs) ∧ Trs K Hx vs (allR n i) ∧ Sm H Hx) ⟨l0, _, none, none, none, rfl, e1, T0, s01⟩ (fun i σ Hx hi hI => ?_) (fun σ Hx hI => ?_)⟩
    · obtain ⟨lr, vs, x2, x3, x4, rfl, hl, hT, sx⟩ := hI
      have hi5 : i + 1 < 5 := by omega
      refine gnm ?_
      refine ⟨Nat.zero_le _, fun l1 hl1 => ?_⟩
      have nlr : lr ≠ l1 := ne_of_none hl hl1
      have s2 := Sm.new (o := .lst []) hl1
      have e2 : (upd Hx l1 (.lst [])) l1 = some (.lst []) := upd_same
      generalize upd Hx l1 (.lst []) = H2 at s2 e2
      refine nx_mk ?_
      refine ⟨.ref lr, rfl, lr, rfl, ⟨_, SqL.of (s2 _ _ hl)⟩, for_list (xs := vs) (fun j σ Hy => ∃ x4 acc, σ = [some (.int (n : Int)), some (.ref lr), some (.int (0 + (i : Int))), some (.ref l1), x4, none] ∧ Hy l1 = some (.lst acc) ∧ Trs K Hy acc (((allR n i).take j).flatMap (ext n)) ∧ Sm Hx Hy) ⟨x4, [], rfl, e2, Als.nil, s2⟩ (fun j σ Hy _ hI => ?_) (fun j v σ Hy hv hI => ?_) (fun σ Hy hI => ?_)⟩
      · obtain ⟨_, _, _, _, _, sy⟩ := hI
        exact SqL.of (sy _ _ hl)
      · obtain ⟨x4, acc, rfl, ha, hA, sy⟩ := hI
        obtain ⟨row, hrow, ra, ws, rfl, hra, hws⟩ := hT.at hv
        obtain ⟨r1, r2, r3⟩ := mem_allR.mp (List.mem_of_getElem? hrow)
        have wl := hws.1
        refine gnm ?_
        refine ⟨.ref l1, rfl, .inl ⟨rfl, _, SqL.of ha⟩, ?_⟩
        refine ⟨.int (n : Int), rfl, n, rfl, by omega, fun H3 pp vp s3 hnp hpp hPP => ?_⟩
        have ha3 := s3 _ _ ha
        have sy3 := sy.trans s3
        have hra3 := sy3.sqT hra
        have hws3 := hws.same sy3
        have pf : (ppre n n).length ≤ 36 := by
          have a := ppre_len_le n n
          have b : n * n ≤ 6 * 6 := Nat.mul_le_mul (by omega) (by omega)
          omega
        refine ⟨pp, rfl, ⟨_, SqL.of hpp⟩, fun D hD => lc_list (xs := vp) (fun m Hz => ∃ ms, Hz D = some (.lst ms) ∧ Trs K Hz ms ((((ppre n n).take m).filter (okB row)).map fun p => row ++ [p]) ∧ ms.length ≤ m ∧ Sm H3 Hz) ⟨[], upd_same, Als.nil, Nat.le_refl _, Sm.new hD⟩ (fun m Hz _ hQ => ?_) (fun m y Hz hy hQ => ?_) (fun Hz hQ => ?_)⟩
        · obtain ⟨_, _, _, _, sz⟩ := hQ
          exact sz.sqL (SqL.of hpp)
        · obtain ⟨ms, k1, k2, k3, sz⟩ := hQ
          have hm : m < (ppre n n).length := by rw [← hPP.1]; exact (List.getElem?_eq_some_iff.mp hy).1
          obtain ⟨⟨a, b⟩, hab⟩ : ∃ ab, (ppre n n)[m]? = some ab := ⟨_, List.getElem?_eq_getElem hm⟩
          obtain ⟨pa, rfl, hpa⟩ := hPP.2 m y (a, b) hy hab
          have ef := filt_take (okB row) hab
          have hpz := sz.sqT hpa
          have hrz := sz.sqT hra3
          have hwz := hws3.same sz
          have yes : okB row (a, b) = true → ∀ (Hq : Hp), Sm Hz Hq → tOp (rCatW K) (tVar 4) (tTup (tCons (tVar 5) tNil)) [some (.int (n : Int)), some (.ref lr), some (.int (0 + (i : Int))), some (.ref l1), some (.ref ra), some (.ref pa)] Hq (fun y H4 => ∃ acc, H4 D = some (.lst acc) ∧ acc.length < sizeLine ∧ ∃ ms, upd H4 D (.lst (acc ++ [y])) D = some (.lst ms) ∧ Trs K (upd H4 D (.lst (acc ++ [y]))) ms ((((ppre n n).take (m + 1)).filter (okB row)).map fun p => row ++ [p]) ∧ ms.length ≤ m + 1 ∧ Sm H3 (upd H4 D (.lst (acc ++ [y])))) := fun ey Hq sq => by
            rw [ey, if_pos rfl] at ef
            refine ⟨.ref ra, rfl, .ref pa, rfl, (by show 1 ≤ sizeLine; decide), fun p1 hp1 => ?_⟩
            have s4 := Sm.new (o := .tup [.ref pa]) hp1
            refine ⟨ra, p1, _, _, rfl, rfl, s4.sqT (sq.sqT hrz), SqT.of upd_same, Nat.le_trans (show ws.length + [V.ref pa].length ≤ 1000 by show ws.length + 1 ≤ 1000; omega) (by decide), fun p2 H5 s5 hp2 => ?_⟩
            have sA := sq.trans (s4.trans s5)
            have k1' := sA _ _ k1
            refine ⟨ms, k1', small1000 (by omega), ms ++ [.ref p2], upd_same, ?_, by rw [List.length_append]; show ms.length + 1 ≤ m + 1; omega, fun cc o eo => by rw [upd_ne (ne_of_none eo hD)]; exact sA _ _ (sz cc o eo)⟩
            rw [ef, List.map_append]
            exact Trs.st ((k2.same sA).append (Als.one ⟨p2, _, rfl, hp2, (hwz.same sA).append (Prs.one (sA.sqT hpz))⟩)) k1'
          refine ⟨rfl, .ref ra, rfl, Nat.zero_le _, fun ep hep => ?_⟩
          have s4 := Sm.new (o := .tup []) hep
          refine ⟨ra, ep, ws, rfl, rfl, s4.sqT hrz, SqT.of upd_same, _, rfl, ?_⟩
          by_cases hw0 : ws = []
          · rw [decide_eq_true hw0]
            have er : row = [] := List.eq_nil_of_length_eq_zero (by rw [← wl, hw0]; rfl)
            exact yes (by rw [er]; rfl) _ s4
          rw [decide_eq_false hw0]
          have hrow0 : row ≠ [] := fun z => hw0 (List.eq_nil_of_length_eq_zero (by rw [wl, z]; rfl))
          obtain ⟨q', hq'⟩ : ∃ q', row.getLast? = some q' := ⟨_, List.getLast?_eq_some_getLast hrow0⟩
          have eo : okB row (a, b) = gtB (a, b) q' := by unfold okB; rw [hq']
          generalize upd Hz ep (.tup []) = H5 at s4
          obtain ⟨qa, hqa, hqs⟩ := prs_last (hwz.same s4) hq'
          refine ⟨.ref pa, rfl, .ref ra, rfl, 1, rfl, ra, ws, -1, _, rfl, rfl, s4.sqT hrz, hqa, ?_⟩
          refine ⟨pa, qa, (a : Int), (b : Int), (q'.1 : Int), (q'.2 : Int), rfl, rfl, s4.sqT hpz, hqs, _, rfl, ?_⟩
          rw [gtB_int (a, b) q', ← eo]
          cases ey : okB row (a, b) with
          | true => exact yes ey _ s4
          | false =>
            rw [ey, if_neg (by decide), List.append_nil] at ef
            exact ⟨ms, s4 _ _ k1, by rw [ef]; exact k2.same s4, by omega, sz.trans s4⟩
        · obtain ⟨ms, k1, k2, k3, sz⟩ := hQ
          rw [List.take_of_length_le (by rw [hPP.1]; exact Nat.le_refl _)] at k2
          have ha4 := sz _ _ ha3
          have f1 := flat_few (n := n) (k := i) (j := j) hn6 hi5
          have al := hA.1
          have vl := hPP.1
          refine ⟨l1, D, acc, ms, rfl, rfl, ha4, k1, Nat.le_of_lt (small1000 (by omega)), _, _, rfl, upd_same, ?_, ?_⟩
          · rw [flat_take (ext n) hrow]
            exact Trs.st ((hA.same (s3.trans sz)).append k2) ha4
          · intro b' u eb
            rw [upd_ne (ne_of_none eb hl1)]
            exact sz _ _ (sy3 b' u eb)
      · obtain ⟨x4, acc, rfl, ha, hA, sy⟩ := hI
        have vl := hT.1
        rw [vl, List.take_length] at hA
        refine nx_mk ?_
        exact ⟨.ref l1, rfl, l1, acc, _, _, _, rfl, ha, hA, sx.trans sy⟩
    · obtain ⟨lr, vs, x2, x3, x4, rfl, hl, hT, sx⟩ := hI
      rw [show ((n : Int) - 1).toNat = n - 1 by omega] at hT
      refine nx_mk ?_
      have vl := hT.1
      have few := allR_few n hn6 (n - 1) (by omega)
      refine ⟨.ref lr, rfl, lr, rfl, ⟨_, SqL.of hl⟩, fun D hD => lc_list (xs := vs) (fun m Hy => ∃ ms, Hy D = some (.lst ms) ∧ Trs K Hy ms (((allR n (n - 1)).take m).filter (connB n)) ∧ ms.length ≤ m ∧ Sm Hx Hy) ⟨[], upd_same, Als.nil, Nat.le_refl _, Sm.new hD⟩ (fun m Hy _ hQ => ?_) (fun m y Hy hy hQ => ?_) (fun Hy hQ => ?_)⟩
      · obtain ⟨_, _, _, _, sy⟩ := hQ
        exact sy.sqL (SqL.of hl)
      · obtain ⟨ms, k1, k2, k3, sy⟩ := hQ
        have hm : m < vs.length := (List.getElem?_eq_some_iff.mp hy).1
        obtain ⟨row, hrow, hR⟩ := hT.at hy
        obtain ⟨ra, ws, rfl, hra, hws⟩ := id hR
        obtain ⟨r1, r2, r3⟩ := mem_allR.mp (List.mem_of_getElem? hrow)
        have ef := filt_take (connB n) hrow
        refine ⟨rfl, .int (n : Int), rfl, .ref ra, rfl, n, ra, ws, row, rfl, sy.sqT hra, hws.same sy, r2, hn1, by omega, fun H3 s3 => ⟨_, rfl, ?_⟩⟩
        have k1' := s3 _ _ k1
        have sy3 := sy.trans s3
        cases ec : connB n row with
        | false =>
          rw [ec, if_neg (by decide), List.append_nil] at ef
          exact ⟨ms, k1', by rw [ef]; exact k2.same s3, by omega, sy3⟩
        | true =>
          rw [ec, if_pos rfl] at ef
          refine ⟨.ref ra, rfl, ms, k1', small1000 (by omega), ms ++ [.ref ra], upd_same, ?_, by rw [List.length_append]; show ms.length + 1 ≤ m + 1; omega, fun cc o eo => by rw [upd_ne (ne_of_none eo hD)]; exact s3 _ _ (sy cc o eo)⟩
          rw [ef]
          exact Trs.st ((k2.same s3).append (Als.one (hR.same sy3))) k1'
      · obtain ⟨ms, k1, k2, k3, sy⟩ := hQ
        rw [vl, List.take_length] at k2
        exact q _ D ms (sx.trans sy) k1 k2
end
section
variable {P : Program} {w : World} {K : PySem.W.Frag} {mg : Str → Option Value} {base : Heap}
def sp_low29 (K : PySem.W.Frag) : Sp := fun vs H Q _ => ∃ (d c r : Addr) (m : Nat) (tv : V) (t : List (List Int)), vs = [.ref d, tv] ∧ Dr H d c r m ∧ m ≤ 600000 ∧ TT K H tv t ∧ WT t ∧ 1 ≤ t.length ∧ t.length ≤ 12 ∧
  ∀ (H' : Hp) (p : Addr) (vs' : List V) (T : List (Nat × Nat)), Span t.length T → SqT K H' p vs' → Prs K H' vs' T → Dr H' d c r (m + 70) → Kp d r H H' → Q (.ref p) H'
set_option maxHeartbeats 8000000 in
theorem ok_low29 {f fN fS fM fL fP : Addr} {fd fdN fdS fdM fdL fdP : FuncData} (F : Fun K "_law_lowest_tree" "_law_lowest_tree" s_L_lowest_tree f fd) (D_L_shuffled : Df K mg "_law_shuffled" s_L_shuffled fS fdS ["_law_drawn", "_law_count_here"]) (D_L_next : Df K mg "_law_next" s_L_next fN fdN ["_law_drawn", "_law_many"])
    (D_L_sum : Df K mg "_law_sum" s_L_sum fM fdM ["_law_table_here", "_law_pairs_here"]) (D_L_level : Df K mg "_law_level" s_L_level fL fdL ["_law_table_here", "_law_one_here", "_law_other"]) (D_L_pairs : Df K mg "_law_pairs" s_L_pairs fP fdP ["_law_count_here"]) (B : Bi mg) : FnOk P w K mg base CX0 3 f fd ["_law_drawn", "_law_table_here"] (sp_low29 K) := by
  have G_L_shuffled : FnOk P w K mg base CX0 2 fS fdS ["_law_drawn", "_law_count_here"] (sp_shuf29 K) := ok_shuf29 D_L_shuffled.F D_L_next B
  have G_L_sum : FnOk P w K mg base CX0 2 fM fdM ["_law_table_here", "_law_pairs_here"] (sp_wsumL K) := ok_wsumL D_L_sum.F D_L_level B
  have G_L_pairs : FnOk P w K mg base CX0 2 fP fdP ["_law_count_here"] (sp_Lpairs K) := ok_Lpairs D_L_pairs.F B
  refine F.ok sc_L_lowest_tree (fun vs H Q E h => ?_) (fun cdv A outer s H vs Q E hr h => ?_)
  · obtain ⟨d, c, r, m, tv, t, rfl, _⟩ := h
    rfl
  · obtain ⟨d, c, r, m, tv, t, rfl, hD, hm, hT, hW, h1, h12, q⟩ := h
    have nd := sc_L_lowest_tree.nd
    refine ⟨_, (pss_cons (ps_asg (pe_tup (pa_cons (pe_len B (pv 1)) (pa_cons (pe_cl D_L_shuffled G_L_shuffled hr (pa_cons (pv 0) (pa_cons pe_int pa_nil))) pa_nil))) (pg_tup rfl (pgs_cons (pg_name (i := 2) nd rfl (.inl rfl)) (pgs_cons (pg_name (i := 3) nd rfl (.inr rfl)) pgs_nil))))
      (pss_cons (ps_setLc (i := 4) (own := [("_law_k", 13), ("_law_pair", 14)]) (g := gTup K 2 (gCons (gName 13) (gCons (gName 14) gNil))) (tt := tYes) (te := tTup (tCons (tCall (sp_wsumL K) [] E0 (tCons (tVar 1) (tCons (tLst (tCons (tVar 14) tNil)) tNil))) (tCons (tOp (rIxL K) (tVar 3) (tVar 13)) (tCons (tVar 14) tNil)))) rfl nd rfl rfl (sw_true rfl rfl rfl (by decide +kernel)) (pi_enum (by rfl) B.enumerate (pa_cons (pe_cl D_L_pairs G_L_pairs hr (pa_cons (pv 2) pa_nil)) pa_nil)) (blkOk_by (N := N_L_lowest_tree) (sc := defScope s_L_lowest_tree) (by decide +kernel))
            (fun _ _ _ _ _ => pg_tup rfl (pgs_cons (pg_name (i := 13) nd rfl (.inl rfl)) (pgs_cons (pg_name (i := 14) nd rfl (.inl rfl)) pgs_nil))) (fun _ _ _ _ _ => pts_nil) (fun _ _ _ _ _ => (pe_tup (pa_cons (pe_cl D_L_sum G_L_sum hr (pa_cons (pv 1) (pa_cons (pe_lst (pa_cons (pv 14) pa_nil)) pa_nil))) (pa_cons (pe_ix ix_list (pv 3) (pv 13) (fun _ _ => rfl)) (pa_cons (pv 14) pa_nil))))))
      (pss_cons (ps_par (i := 5) (j := 6) rfl nd rfl rfl (by decide) rfl rfl (pa_cons (pe_listRg rfl (by rfl) B.list (prg_1 (by rfl) B.range (pv 2))) (pa_cons (pe_lst pa_nil) pa_nil)) rfl)
      (pss_cons (ps_for PassesOwn.never rfl (pi_list (pe_callB (cr_sortD hr.units) (by rfl) B.sorted (by decide +kernel) (pa_cons (pv 4) pa_nil))) (pg_tup rfl (pgs_cons (pg_name (i := 7) nd rfl (.inl rfl)) (pgs_cons (pg_name (i := 8) nd rfl (.inl rfl)) (pgs_cons (pg_tup rfl (pgs_cons (pg_name (i := 9) nd rfl (.inl rfl)) (pgs_cons (pg_name (i := 10) nd rfl (.inl rfl)) pgs_nil))) pgs_nil))))
      (pss_one (ps_if (pt_cmpR op_ne (pe_ix ix_list (pv 5) (pv 9) (fun _ _ => rfl)) (pe_ix ix_list (pv 5) (pv 10) (fun _ _ => rfl)) (nomark _))
      (pss_cons (ps_asg (pe_tup (pa_cons (pe_ix ix_list (pv 5) (pv 10) (fun _ _ => rfl)) (pa_cons (pe_ix ix_list (pv 5) (pv 9) (fun _ _ => rfl)) pa_nil))) (pg_tup rfl (pgs_cons (pg_name (i := 11) nd rfl (.inr rfl)) (pgs_cons (pg_name (i := 12) nd rfl (.inr rfl)) pgs_nil))))
      (pss_cons (ps_setLc (i := 5) (own := [("_law_label", 15)]) (g := gName 15) (tt := tYes) (te := tIf (tB (tOp (fun x y H Q => scal x y = true ∧ Q (.bl (decide (x = y))) H) (tVar 15) (tVar 11))) (tVar 12) (tVar 15)) rfl nd rfl rfl (sw_true rfl rfl rfl (by decide +kernel)) (pi_list (pv 5)) (blkOk_by (N := N_L_lowest_tree) (sc := defScope s_L_lowest_tree) (by decide +kernel))
            (fun _ _ _ _ _ => pg_name (i := 15) nd rfl (.inl rfl)) (fun _ _ _ _ _ => pts_nil) (fun _ _ _ _ _ => (pe_ifExp (pt_cmpR op_eq (pv 15) (pv 11) (nomark _)) (pv 12) (pv 15))))
      (pss_one (ps_expr (pe_bm PySem.F.plainAttrs_list PySem.F.slot_list_append PySem.F.type_list_append mt_append (pv 6) (pa_cons (pe_tup (pa_cons (pv 9) (pa_cons (pv 10) pa_nil))) pa_nil))))))
      pss_nil)))
      (pss_one (ps_ret (pe_callTy call_tuple_of (by rfl) B.tuple (by decide +kernel) (pa_cons (pe_callB (cr_sortD hr.units) (by rfl) B.sorted (by decide +kernel) (pa_cons (pv 6) pa_nil)) pa_nil)))))))), ?_⟩
    obtain ⟨n, hn⟩ : ∃ n, n = t.length := ⟨_, rfl⟩
    rw [← hn] at h1 h12
    obtain ⟨tp, rs, rfl, htp, hR⟩ := id hT
    have hrl : rs.length = n := by rw [hn]; exact hR.1
    refine ⟨.ref tp, rfl, tp, rs, rfl, .inr htp, ?_⟩
    rw [hrl]
    refine ⟨.ref d, rfl, d, c, r, m, 66, rfl, hD, by omega, by decide, fun H1 np os hnp hos pm D1 kp1 => ?_⟩
    have nnp := hD.ne hnp
    have ol : os.length = 66 := by rw [pm.length_eq, List.length_range]
    have hl2 : (2 : Nat) ≤ sizeLine := small1000 (Nat.le_of_ble_eq_true rfl)
    refine ⟨hl2, fun zp hzp => ?_⟩
    have s2 : Sm H1 (upd H1 zp (.tup [.int (n : Int), .ref np])) := Sm.new hzp
    refine ⟨zp, _, rfl, SqT.of upd_same, rfl, _, _, rfl, _, _, rfl, rfl, ?_⟩
    have hos2 := s2 _ _ hos
    have D2 := D1.same s2
    have kp2 := kp1.trans s2.kp
    generalize upd H1 zp (.tup [.int (n : Int), .ref np]) = H2 at s2 hos2 D2 kp2
    have hT2 : TT K H2 (.ref tp) t := hT.kp hD kp2
    refine nx_mk ?_
    refine ⟨.int (n : Int), rfl, n, rfl, by omega, fun H3 pp vs' s3 hpp0 hpp hvs => ?_⟩
    have vl := hvs.1
    have few : (ppre n n).length ≤ 66 := by
      have hf : ∀ k, k < 13 → (ppre k k).length ≤ 66 := by decide
      exact hf n (by omega)
    have D3 := D2.same s3
    have hos3 := s3 _ _ hos2
    have hT3 := hT2.same s3
    have kp3 := kp2.trans s3.kp
    refine ⟨pp, _, rfl, SqL.of hpp, fun ro hro => lc_enumL (xs := vs') (fun i Hx => ∃ xs js, Hx ro = some (.lst xs) ∧ RwA29 K Hx xs js ∧ js.map (·.2.2) = (ppre n n).take i ∧ Sm H3 Hx) ⟨[], [], upd_same, ⟨rfl, fun i v j a b => by cases a⟩, by rw [List.take_zero]; rfl, Sm.new hro⟩ (fun i Hx _ hP => ?_) (fun i x Tq Hx hx hP hTq => ?_) (fun Hx hP => ?_)⟩
    · obtain ⟨_, _, _, _, _, sx⟩ := hP
      exact SqL.of (sx _ _ hpp)
    · obtain ⟨xs, js, k1, k2, k3, sx⟩ := hP
      have hi : i < (ppre n n).length := by
        have := (List.getElem?_eq_some_iff.mp hx).1
        omega
      obtain ⟨⟨a, b⟩, hab⟩ : ∃ e, (ppre n n)[i]? = some e := ⟨_, List.getElem?_eq_getElem hi⟩
      obtain ⟨g1, g2, g3⟩ := mem_ppre.mp (List.mem_of_getElem? hab)
      have hvx := (hvs.same sx)
      obtain ⟨ya, rfl, hya⟩ := hvx.2 i x (a, b) hx hab
      have s4 : Sm Hx (upd Hx Tq (.tup [.int (i : Int), .ref ya])) := Sm.new hTq
      refine ⟨Tq, _, rfl, SqT.of upd_same, rfl, _, _, rfl, _, _, rfl, rfl, rfl, ?_⟩
      have k14 := s4 _ _ k1
      have k24 := k2.same s4
      have hya4 := s4.sqT hya
      have sx4 := sx.trans s4
      generalize upd Hx Tq (.tup [.int (i : Int), .ref ya]) = H4 at k14 k24 hya4 sx4
      have hl1 : (1 : Nat) ≤ sizeLine := small1000 (Nat.le_of_ble_eq_true rfl)
      refine ⟨.ref tp, rfl, .ref ya, rfl, hl1, fun l hl => ?_⟩
      have s5 : Sm H4 (upd H4 l (.lst [.ref ya])) := Sm.new hl
      refine ⟨.ref tp, t, l, [.ref ya], [(a, b)], rfl, (hT3.same sx4).same s5, hW, by omega, SqL.of upd_same, Prs.one (s5.sqT hya4), fun e he => by
        cases List.mem_singleton.mp he
        rw [← hn]
        exact List.mem_of_getElem? hab, (show (1 : Nat) ≤ 20 by decide), fun H6 s6 => ?_⟩
      have s46 := s5.trans s6
      have sx6 := sx4.trans s46
      have hrk : (nI os)[i]? = some (.int ((os.getD i 0 : Nat) : Int)) := nI_at (by omega)
      refine ⟨.ref np, rfl, .int (i : Int), rfl, np, _, _, _, rfl, rfl, SqL.of (sx6 _ _ hos3), atI_nat hrk, .ref ya, rfl, small1000 (Nat.le_of_ble_eq_true rfl), fun qp hqp => ?_⟩
      have s7 : Sm H6 (upd H6 qp (.tup [.int (wsum t [(a, b)]), .int ((os.getD i 0 : Nat) : Int), .ref ya])) := Sm.new hqp
      have hq7 : SqT K (upd H6 qp (.tup [.int (wsum t [(a, b)]), .int ((os.getD i 0 : Nat) : Int), .ref ya])) qp [.int (wsum t [(a, b)]), .int ((os.getD i 0 : Nat) : Int), .ref ya] := SqT.of upd_same
      have s47 := s46.trans s7
      have k17 := s47 _ _ k14
      have k27 := k24.same s47
      have hya7 := s47.sqT hya4
      have sx7 := sx6.trans s7
      generalize upd H6 qp (.tup [.int (wsum t [(a, b)]), .int ((os.getD i 0 : Nat) : Int), .ref ya]) = H7 at hq7 k17 k27 hya7 sx7
      have xl : xs.length ≤ 66 := by
        have := congrArg List.length k3
        rw [List.length_map, List.length_take] at this
        have := k2.1
        omega
      refine ⟨_, k17, small1000 (by omega), _, js ++ [(wsum t [(a, b)], ((os.getD i 0 : Nat) : Int), a, b)], upd_same, ?_, ?_, fun c u e => ?_⟩
      · exact (k27.snoc ⟨qp, ya, rfl, hq7, hya7⟩).upd k17
      · rw [List.map_append, k3, List.take_add_one, hab]
        rfl
      · rw [upd_ne (ne_of_none e hro)]
        exact sx7 c u e
    · obtain ⟨xs, js, k1, k2, k3, sx⟩ := hP
      rw [vl, List.take_length] at k3
      have D5 := D3.same sx
      have kp5 := kp3.trans sx.kp
      refine nx_mk ?_
      refine ⟨.int (n : Int), rfl, (n : Int), rfl, RgOk.of_le (by decide) (by omega) (by decide) (by omega), fun lb0 hlb0 => ?_⟩
      rw [rg31 n]
      have s6 := Sm.new (o := .lst (((List.range n).map fun i : Nat => (i : Int)).map V.int)) hlb0
      have hlb6 : (upd Hx lb0 (.lst (((List.range n).map fun i : Nat => (i : Int)).map V.int))) lb0 = some (.lst (((List.range n).map fun i : Nat => (i : Int)).map V.int)) := upd_same
      generalize upd Hx lb0 (.lst (((List.range n).map fun i : Nat => (i : Int)).map V.int)) = H6 at s6 hlb6
      have L0 := Lab.start n
      generalize ((List.range n).map fun i : Nat => (i : Int)) = ls0 at hlb6 L0
      refine ⟨Nat.zero_le _, fun fo hfo => ?_⟩
      have s7 : Sm H6 (upd H6 fo (.lst [])) := Sm.new hfo
      have hfo7 : (upd H6 fo (.lst [])) fo = some (.lst []) := upd_same
      have hfx : Hx fo = none := Sm.free s6 hfo
      have nlb0 : lb0 ≠ fo := fun e => by rw [← e, hlb6] at hfo; cases hfo
      have hlb7 := s7 _ _ hlb6
      have s57 := s6.trans s7
      generalize upd H6 fo (.lst []) = H7 at s7 hfo7 hlb7 s57
      refine ⟨_, _, rfl, ?_⟩
      refine nx_mk ?_
      obtain ⟨L, g1, g2, g3, g4, g5, g6⟩ := sort_gen29 (K := K) (H := H7) (Rw29 K Hx) rwD29 k2.1 k2.2 (fun v j h => (h.same s57).dp) rw_alike29 (fun j _ => ⟨_, _, rfl⟩) rw_dep29
      refine ⟨.ref ro, rfl, ro, L, rfl, by rw [g1]; exact SqL.of (s57 _ _ k1), g2, g3, g4, g5, fun L' bp pmL sr hbp => ?_⟩
      obtain ⟨ks, pk, _, yl, yT⟩ := g6 L' pmL sr
      generalize L'.map (·.1) = ys at yl yT
      have s8 := Sm.new (o := .lst ys) hbp
      have hbp8 : (upd H7 bp (.lst ys)) bp = some (.lst ys) := upd_same
      have nbp : bp ≠ fo := fun e => by rw [e, hfo7] at hbp; cases hbp
      have hfo8 := s8 _ _ hfo7
      have hlb8 := s8 _ _ hlb7
      have s58 := s57.trans s8
      generalize upd H7 bp (.lst ys) = H8 at hbp8 hfo8 hlb8 s58
      have kin : ∀ j ∈ ks, j.2.2 ∈ ppre n n := fun j hj => by
        rw [← k3]
        exact List.mem_map.mpr ⟨j, pk.mem_iff.mp hj, rfl⟩
      refine ⟨bp, rfl, ⟨_, SqL.of hbp8⟩, for_list (xs := ys) (fun i σ Hy => ∃ lb ls x7 x8 x9 x10 x11 x12 zs E, σ = [some (.ref d), some (.ref tp), some (.int (n : Int)), some (.ref np), some (.ref ro), some (.ref lb), some (.ref fo), x7, x8, x9, x10, x11, x12, none, none, none] ∧ Hy bp = some (.lst ys) ∧ Hy fo = some (.lst zs) ∧ Hy lb = some (.lst (ls.map V.int)) ∧ lb ≠ fo ∧ Prs K Hy zs E ∧ Lab n E ls ∧ Fo29 n E ∧ (∀ e ∈ ks.take i, Lk E e.2.2.1 e.2.2.2) ∧ Sm Hx Hy)
        ⟨lb0, ls0, none, none, none, none, none, none, [], [], rfl, hbp8, hfo8, hlb8, nlb0, .nil, L0, .nil n, (fun e h => absurd h List.not_mem_nil), s58⟩ (fun i σ Hy _ hI => ?_) (fun i y σ Hy hy hI => ?_) (fun σ Hy hI => ?_)⟩
      · obtain ⟨_, _, _, _, _, _, _, _, _, _, _, h, _⟩ := hI
        exact SqL.of h
      · obtain ⟨lb, ls, x7, x8, x9, x10, x11, x12, zs, E, rfl, hb, hf, hl, nlb, hP, hL, hF, hk, sy⟩ := hI
        have hi : i < ks.length := by
          have := (List.getElem?_eq_some_iff.mp hy).1
          omega
        obtain ⟨⟨lv, rk, a, b⟩, hab⟩ : ∃ e, ks[i]? = some e := ⟨_, List.getElem?_eq_getElem hi⟩
        obtain ⟨p, qp, rfl, hp, hqp⟩ := yT i y _ hy hab
        obtain ⟨ha, hlt, hb'⟩ := mem_ppre.mp (show (a, b) ∈ ppre n n from kin _ (List.mem_of_getElem? hab))
        have ll := hL.len
        have etk : ks.take (i + 1) = ks.take i ++ [(lv, rk, a, b)] := by rw [List.take_add_one, hab]; rfl
        refine ⟨p, _, rfl, sy.sqT hp, rfl, _, _, rfl, _, _, rfl, _, _, rfl, qp, _, rfl, sy.sqT hqp, rfl, _, _, rfl, _, _, rfl, rfl, rfl, ?_⟩
        refine ⟨.ref lb, rfl, .int (a : Int), rfl, lb, _, _, _, rfl, rfl, SqL.of hl, atI_nat (int_at (by omega)), .ref lb, rfl, .int (b : Int), rfl, lb, _, _, _, rfl, rfl, SqL.of hl, atI_nat (int_at (by omega)), rfl, _, rfl, ?_⟩
        by_cases hq : ls.getD a 0 = ls.getD b 0
        · rw [decide_eq_true (by rw [hq])]
          refine ⟨lb, ls, _, _, _, _, x11, x12, zs, E, rfl, hb, hf, hl, nlb, hP, hL, hF, fun e he => ?_, sy⟩
          rw [etk] at he
          rcases List.mem_append.mp he with he | he
          · exact hk e he
          · cases List.mem_singleton.mp he
            exact (hL.eq a b ha hb').mp hq
        · rw [decide_eq_false (fun z => hq (V.int.inj z))]
          have no : ¬ Lk E a b := fun z => hq ((hL.eq a b ha hb').mpr z)
          have hF2 := hF.add hlt hb' no
          have hL2 := hL.step ha hb'
          refine ⟨.ref lb, rfl, .int (b : Int), rfl, lb, _, _, _, rfl, rfl, SqL.of hl, atI_nat (int_at (by omega)), .ref lb, rfl, .int (a : Int), rfl, lb, _, _, _, rfl, rfl, SqL.of hl, atI_nat (int_at (by omega)), hl2, fun wp hwp => ?_⟩
          have t2 := Sm.new (o := .tup [.int (ls.getD b 0), .int (ls.getD a 0)]) hwp
          refine ⟨wp, _, rfl, SqT.of upd_same, rfl, _, _, rfl, _, _, rfl, rfl, ?_⟩
          have hl3 := t2 _ _ hl
          have hb3 := t2 _ _ hb
          have hf3 := t2 _ _ hf
          have hP3 := hP.same t2
          have sy3 := sy.trans t2
          generalize upd Hy wp (.tup [.int (ls.getD b 0), .int (ls.getD a 0)]) = H9 at hl3 hb3 hf3 hP3 sy3
          have rl : (relab (ls.getD b 0) (ls.getD a 0) ls).length = ls.length := List.length_map _
          refine nx_mk ?_
          refine ⟨.ref lb, rfl, lb, rfl, ⟨_, SqL.of hl3⟩, fun Dl hDl => lc_list (xs := ls.map V.int) (fun j Hz => Hz Dl = some (.lst (((relab (ls.getD b 0) (ls.getD a 0) ls).take j).map V.int)) ∧ Sm H9 Hz) ⟨upd_same, Sm.new hDl⟩ (fun j Hz _ hQ => hQ.2.sqL (SqL.of hl3)) (fun j z Hz hz hQ => ?_) (fun Hz hQ => ?_)⟩
          · obtain ⟨g1, sz⟩ := hQ
            have hj : j < ls.length := by
              have := (List.getElem?_eq_some_iff.mp hz).1
              rw [List.length_map] at this
              exact this
            obtain rfl : z = .int (ls.getD j 0) := Option.some.inj (hz.symm.trans (int_at hj))
            have er : (relab (ls.getD b 0) (ls.getD a 0) ls).take (j + 1) = (relab (ls.getD b 0) (ls.getD a 0) ls).take j ++ [if ls.getD j 0 = ls.getD b 0 then ls.getD a 0 else ls.getD j 0] := by
              rw [List.take_add_one]
              congr 1
              unfold relab
              rw [List.getElem?_map, List.getElem?_eq_getElem hj, gd_lt hj]
              rfl
            have fin : ∃ acc, Hz Dl = some (.lst acc) ∧ acc.length < sizeLine ∧ upd Hz Dl (.lst (acc ++ [V.int (if ls.getD j 0 = ls.getD b 0 then ls.getD a 0 else ls.getD j 0)])) Dl = some (.lst (((relab (ls.getD b 0) (ls.getD a 0) ls).take (j + 1)).map V.int)) ∧ Sm H9 (upd Hz Dl (.lst (acc ++ [V.int (if ls.getD j 0 = ls.getD b 0 then ls.getD a 0 else ls.getD j 0)]))) :=
              ⟨_, g1, by rw [List.length_map, List.length_take]; exact small1000 (by omega), by rw [upd_same, er, List.map_append]; rfl, fun cc o e => by rw [upd_ne (ne_of_none e hDl)]; exact sz cc o e⟩
            refine ⟨rfl, _, rfl, _, rfl, rfl, _, rfl, ?_⟩
            by_cases h0 : ls.getD j 0 = ls.getD b 0
            · rw [if_pos h0] at fin
              rw [decide_eq_true (by rw [h0])]
              exact ⟨_, rfl, fin⟩
            · rw [if_neg h0] at fin
              rw [decide_eq_false (fun z => h0 (V.int.inj z))]
              exact ⟨_, rfl, fin⟩
          · obtain ⟨g1, sz⟩ := hQ
            rw [List.length_map, ← rl, List.take_length] at g1
            have nDl : Dl ≠ fo := (ne_of_none hf3 hDl).symm
            have hb4 := sz _ _ hb3
            have hf4 := sz _ _ hf3
            have hP4 := hP3.same sz
            have sy4 := sy3.trans sz
            have zl : zs.length ≤ 12 := by
              have := hF.few
              have := hP.1
              omega
            refine nx_mk ?_
            refine ⟨.ref fo, rfl, .inl ⟨rfl, _, SqL.of hf4⟩, .int (a : Int), rfl, .int (b : Int), rfl, hl2, fun vp hvp => ?_⟩
            have t5 : Sm Hz (upd Hz vp (.tup [.int (a : Int), .int (b : Int)])) := Sm.new hvp
            have hv5 : SqT K (upd Hz vp (.tup [.int (a : Int), .int (b : Int)])) vp [.int (a : Int), .int (b : Int)] := SqT.of upd_same
            have hb5 := t5 _ _ hb4
            have hf5 := t5 _ _ hf4
            have hl5 := t5 _ _ g1
            have hP5 := hP4.same t5
            have sy5 := sy4.trans t5
            generalize upd Hz vp (.tup [.int (a : Int), .int (b : Int)]) = H10 at hv5 hb5 hf5 hl5 hP5 sy5
            refine ⟨fo, zs, _, rfl, rfl, hf5, small1000 (by omega), ?_⟩
            refine ⟨Dl, _, _, _, _, _, _, _, zs ++ [.ref vp], E ++ [(a, b)], rfl, ?_, upd_same, ?_, nDl, (hP5.append (Prs.one hv5)).upd hf5, hL2, hF2, fun e he => ?_, fun cc o e => ?_⟩
            · rw [upd_ne nbp]
              exact hb5
            · rw [upd_ne nDl]
              exact hl5
            · rw [etk] at he
              rcases List.mem_append.mp he with he | he
              · exact (hk e he).mono fun x hx => List.mem_append_left _ hx
              · cases List.mem_singleton.mp he
                exact .edge (List.mem_append_right _ List.mem_cons_self)
            · rw [upd_ne (ne_of_none e hfx)]
              exact sy5 cc o e
      · obtain ⟨lb, ls, x7, x8, x9, x10, x11, x12, zs, E, rfl, hb, hf, hl, nlb, hP, hL, hF, hk, sy⟩ := hI
        have cn : Conn n E := fun i j hi hj => by
          have all : ∀ a b, a < b → b < n → Lk E a b := fun a b h1 h2 => by
            have : (a, b) ∈ js.map (·.2.2) := by
              rw [k3]
              exact mem_ppre.mpr ⟨by omega, h1, h2⟩
            obtain ⟨j, hj, ej⟩ := List.mem_map.mp this
            have := hk j (by rw [yl, List.take_length]; exact pk.mem_iff.mpr hj)
            rw [ej] at this
            exact this
          rcases Nat.lt_trichotomy i j with z | z | z
          · exact all i j z hj
          · rw [z]; exact .refl
          · exact (all j i z hi).symm
        refine nx_mk ?_
        obtain ⟨L2, g1, g2, g3, g4, g5, g6⟩ := srtP29 hP
        refine ⟨.ref fo, rfl, fo, L2, rfl, by rw [g1]; exact SqL.of hf, g2, g3, g4, g5, fun L' bq pmL sr hbq => ?_⟩
        obtain ⟨S, sp, srt, hS⟩ := g6 L' pmL sr
        generalize L'.map (·.1) = us at hS
        have s1 := Sm.new (o := .lst us) hbq
        have hb1 : (upd Hy bq (.lst us)) bq = some (.lst us) := upd_same
        refine ⟨bq, _, rfl, .inl ⟨SqL.of hb1, fun l hl => ?_⟩⟩
        have s2 := s1.trans (Sm.new (o := .tup us) hl)
        have sz := sy.trans s2
        exact q _ l us S (by rw [← hn]; exact hF.span h1 cn sp srt) (SqT.of upd_same) (hS.same s2) ((D5.same sz).mono (by omega)) (kp5.trans sz.kp)
end
section
variable {P : Program} {w : World} {K : PySem.W.Frag} {mg : Str → Option Value} {base : Heap}
/-! ### the law: a tree's sums, steps and joining levels -/
theorem shaped_tab (t : List (List Int)) : SeqAt.shaped (tabD t) = true := by
  show ((PyData.tuple (t.map rowD)).canLay0 && decide ((PyData.tuple (t.map rowD)).depth ≤ 64)) = true
  have h := dep_rows t
  have d : (PyData.tuple (t.map rowD)).depth ≤ 64 := by
    have e : (PyData.tuple (t.map rowD)).depth = PyData.depthAll (t.map rowD) + 1 := by simp [PyData.depth]
    omega
  have l : (PyData.tuple (t.map rowD)).canLay0 = true := by simp [PyData.canLay0, lay_rows t]
  rw [l, decide_eq_true d]
  rfl
def sp_tr33 (K : PySem.W.Frag) : Sp := fun vs H Q _ => ∃ (tp pf pt : Addr) (jv : V) (t : List (List Int)) (wf wt : List V) (Fs Tr : List (Nat × Nat)), vs = [.ref tp, jv, .ref pf, .ref pt] ∧ TT K H (.ref tp) t ∧ WT t ∧ 1 ≤ t.length ∧ t.length ≤ 12 ∧ TT K H jv (jtab t) ∧ SqT K H pf wf ∧ Prs K H wf Fs ∧ Least t Fs ∧ SqT K H pt wt ∧ Prs K H wt Tr ∧ Span t.length Tr ∧ ∀ H', Sm H H' → Q (.bl true) H'
set_option maxHeartbeats 8000000 in
theorem ok_tr33 {f f1 f2 f3 f4 f5 f6 f7 : Addr} {fd fd1 fd2 fd3 fd4 fd5 fd6 fd7 : FuncData} (F : Fun K "_law_tree_right" "_law_tree_right" s_L_tree_right f fd) (D_tree_levels : Df K mg "tree_levels" s_tree_levels f1 fd1 ["table", "value"]) (D_L_pairs : Df K mg "_law_pairs" s_L_pairs f2 fd2 ["_law_count_here"]) (D_L_level : Df K mg "_law_level" s_L_level f3 fd3 ["_law_table_here", "_law_one_here", "_law_other"])
    (D_L_sum : Df K mg "_law_sum" s_L_sum f4 fd4 ["_law_table_here", "_law_pairs_here"]) (D_is_least_tree : Df K mg "is_least_tree" s_is_least_tree f5 fd5 ["table", "value"]) (D_L_equal : Df K mg "_law_equal" s_L_equal f6 fd6 ["_law_one_here", "_law_other"]) (D_is_nested : Df K mg "is_nested" s_is_nested f7 fd7 ["table"])
    (G_tree_levels : FnOk P w K mg base CX0 8 f1 fd1 ["table", "value"] (sp_tlev33 K)) (G_L_sum : FnOk P w K mg base CX0 8 f4 fd4 ["_law_table_here", "_law_pairs_here"] (sp_wsum K)) (G_is_least_tree : FnOk P w K mg base CX0 8 f5 fd5 ["table", "value"] (sp_isleast28 K)) (G_L_equal : FnOk P w K mg base CX0 8 f6 fd6 ["_law_one_here", "_law_other"] (sp_equalY K 7)) (G_is_nested : FnOk P w K mg base CX0 8 f7 fd7 ["table"] (sp_isn K)) (B : Bi mg) :
    FnOk P w K mg base CX0 9 f fd ["_law_table_here", "_law_joining", "_law_first", "_law_tree"] (sp_tr33 K) := by
  have G_L_pairs : FnOk P w K mg base CX0 8 f2 fd2 ["_law_count_here"] (sp_Lpairs K) := ok_Lpairs D_L_pairs.F B
  have G_L_level : FnOk P w K mg base CX0 8 f3 fd3 ["_law_table_here", "_law_one_here", "_law_other"] (sp_level K) := ok_level D_L_level.F B
  refine F.ok sc_L_tree_right (fun vs H Q E h => ?_) (fun cdv A outer s H vs Q E hr h => ?_)
  · obtain ⟨tp, pf, pt, jv, t, wf, wt, Fs, Tr, rfl, _⟩ := h
    rfl
  · obtain ⟨tp, pf, pt, jv, t, wf, wt, Fs, Tr, rfl, hT, hW, h1, h12, hJ, hpf, hwf, hF, hpt, hwt, hS, q⟩ := h
    have nd := sc_L_tree_right.nd
    refine ⟨_, (pss_cons (ps_par (i := 4) (j := 5) rfl nd rfl rfl (by decide) rfl rfl (pa_cons (pe_cl D_tree_levels G_tree_levels hr (pa_cons (pv 0) (pa_cons (pv 3) pa_nil))) (pa_cons (pe_lst pa_nil) pa_nil)) rfl)
      (pss_cons (ps_for PassesOwn.never rfl (pi_list (pe_cl D_L_pairs G_L_pairs hr (pa_cons (pe_len B (pv 0)) pa_nil))) (pg_tup rfl (pgs_cons (pg_name (i := 6) nd rfl (.inl rfl)) (pgs_cons (pg_name (i := 7) nd rfl (.inl rfl)) pgs_nil)))
      (pss_one (ps_expr (pe_bm PySem.F.plainAttrs_list PySem.F.slot_list_append PySem.F.type_list_append mt_append (pv 5) (pa_cons (pe_op op_sub (pe_cl D_L_level G_L_level hr (pa_cons (pv 4) (pa_cons (pv 6) (pa_cons (pv 7) pa_nil)))) (pe_cl D_L_level G_L_level hr (pa_cons (pv 1) (pa_cons (pv 6) (pa_cons (pv 7) pa_nil))))) pa_nil)))))
      (pss_cons (ps_par (i := 8) (j := 9) rfl nd rfl rfl (by decide) rfl rfl (pa_cons (pe_op op_sub (pe_cl D_L_sum G_L_sum hr (pa_cons (pv 0) (pa_cons (pv 3) pa_nil))) (pe_cl D_L_sum G_L_sum hr (pa_cons (pv 0) (pa_cons (pv 2) pa_nil)))) (pa_cons (pe_cl D_is_least_tree G_is_least_tree hr (pa_cons (pv 0) (pa_cons (pv 3) pa_nil))) pa_nil)) rfl)
      (pss_cons (ps_if (PW.pt (pw_or (pt_cmpR (op_neNilL hr.units) (pe_lc (own := [("_law_gap", 10)]) (g := gName 10) (tt := tTest (tOp (rI0 fun i j => .bl (decide (i < j))) (tVar 10) (tC (.int 0)))) (te := tVar 10) rfl nd (pi_list (pv 5)) (blkOk_by (N := N_L_tree_right) (sc := defScope s_L_tree_right) (by decide +kernel))
            (fun _ _ _ _ _ => pg_name (i := 10) nd rfl (.inl rfl)) (fun _ _ _ _ _ => pts_one (pt_cmpR op_lt (pv 10) pe_int (nomark _))) (fun _ _ _ _ _ => (pv 10))) (pe_lst pa_nil) (nomark _)) (pw_or (pt_cmpR op_lt (pv 8) pe_int (nomark _)) (pw_or1 (pt_not (pt_val (pe_cl D_L_equal G_L_equal hr (pa_cons (pe_cl D_is_nested G_is_nested hr (pa_cons (pv 4) pa_nil)) (pa_cons pe_bl pa_nil)))))))))
      (pss_one (ps_ret pe_bl))
      pss_nil)
      (pss_cons (ps_if (pt_not (pt_val (pe_cl D_L_equal G_L_equal hr (pa_cons (pe_tup (pa_cons (pv 9) (pa_cons (pv 9) pa_nil))) (pa_cons (pe_tup (pa_cons (pe_cmpR op_eq (pv 8) pe_int (nomark _)) (pa_cons (pe_cmpR (op_eqD hr.units) (pv 4) (pv 1) (nomark _)) pa_nil))) pa_nil)))))
      (pss_one (ps_ret pe_bl))
      pss_nil)
      (pss_one (ps_ret (pe_cl D_L_equal G_L_equal hr (pa_cons (pe_cl D_is_least_tree G_is_least_tree hr (pa_cons (pv 4) (pa_cons (pv 3) pa_nil))) (pa_cons pe_bl pa_nil)))))))))), ?_⟩
    obtain ⟨tp', rs, e0, htp, hR⟩ := id hT
    cases e0
    have hrl : rs.length = t.length := hR.1
    have few : (ppre t.length t.length).length ≤ 66 := by
      have hf : ∀ k, k < 13 → (ppre k k).length ≤ 66 := by decide
      exact hf _ (by omega)
    have hWL : WT (TL29 t Tr) := TL_wt29 hW hS
    have hLL : (TL29 t Tr).length = t.length := TL_len29
    have hWJ : WT (jtab t) := jtab_wt hW
    have hJL : (jtab t).length = t.length := jtab_len t
    refine ⟨.ref tp, rfl, .ref pt, rfl, .ref tp, t, pt, wt, Tr, rfl, hT, hW, h1, h12, hpt, hwt, hS, fun H1 z s1 hz => ?_⟩
    refine ⟨Nat.zero_le _, fun g hg => ?_⟩
    have s2 : Sm H1 (upd H1 g (.lst [])) := Sm.new hg
    have hg2 : (upd H1 g (.lst [])) g = some (.lst []) := upd_same
    have hgH : H g = none := Sm.free s1 hg
    have s02 := s1.trans s2
    have hz2 := hz.same s2
    generalize upd H1 g (.lst []) = H2 at s2 hg2 s02 hz2
    refine ⟨_, _, rfl, ?_⟩
    refine nx_mk ?_
    refine ⟨.ref tp, rfl, tp, rs, rfl, .inr (s02.sqT htp), t.length, by rw [hrl]; rfl, by omega, fun H3 pp vs' s3 hpp0 hpp hvs => ?_⟩
    have nfp : g ≠ pp := ne_of_none hg2 hpp0
    have vl := hvs.1
    obtain ⟨zp, zs, rfl, hzp, hZR⟩ := id hz2
    obtain ⟨jp, js, rfl, hjp, hJR⟩ := id hJ
    refine ⟨pp, rfl, ⟨_, SqL.of hpp⟩, for_list (xs := vs') (fun i σ Hy => ∃ x6 x7, σ = [some (.ref tp), some (.ref jp), some (.ref pf), some (.ref pt), some (.ref zp), some (.ref g), x6, x7, none, none, none] ∧ Hy g = some (.lst ((((ppre t.length t.length).take i).map fun e => tH29 t Tr e.1 e.2 - jn t e.1 e.2).map V.int)) ∧ Hy pp = some (.lst vs') ∧ Prs K Hy vs' (ppre t.length t.length) ∧ TT K Hy (.ref zp) (TL29 t Tr) ∧ Sm H Hy)
      ⟨none, none, rfl, s3 _ _ hg2, hpp, hvs, hz2.same s3, s02.trans s3⟩ (fun i σ Hy _ hI => ?_) (fun i y σ Hy hy hI => ?_) (fun σ Hy hI => ?_)⟩
    · obtain ⟨_, _, _, _, h, _⟩ := hI
      exact SqL.of h
    · obtain ⟨x6, x7, rfl, hg3, hp3, hv3, hz3, sy⟩ := hI
      have hi : i < (ppre t.length t.length).length := by
        have := (List.getElem?_eq_some_iff.mp hy).1
        omega
      obtain ⟨⟨a, b⟩, hab⟩ : ∃ e, (ppre t.length t.length)[i]? = some e := ⟨_, List.getElem?_eq_getElem hi⟩
      obtain ⟨ya, rfl, hya⟩ := hv3.2 i y (a, b) hy hab
      obtain ⟨ha, hlt, hb⟩ := mem_ppre.mp (List.mem_of_getElem? hab)
      obtain ⟨zp', zs', ez, hzp', hZR'⟩ := id hz3
      cases ez
      refine ⟨ya, _, rfl, hya, rfl, _, _, rfl, _, _, rfl, rfl, ?_⟩
      refine ⟨.ref g, rfl, .inl ⟨rfl, _, SqL.of hg3⟩, ?_⟩
      refine ⟨.ref zp, rfl, .int (a : Int), rfl, .int (b : Int), rfl, zp, zs', TL29 t Tr, a, b, rfl, .inr hzp', hZR', hWL, by omega, by omega, ?_⟩
      refine ⟨.ref jp, rfl, .int (a : Int), rfl, .int (b : Int), rfl, jp, js, jtab t, a, b, rfl, .inr (sy.sqT hjp), hJR.same sy, hWJ, by omega, by omega, ?_⟩
      refine ⟨_, _, rfl, rfl, ?_⟩
      refine ⟨g, _, _, rfl, rfl, hg3, by rw [List.length_map, List.length_map, List.length_take]; exact small1000 (by omega), ?_⟩
      refine ⟨_, _, rfl, ?_, by rw [upd_ne nfp.symm]; exact hp3, hv3.upd hg3, hz3.upd hg3, fun c o e => by rw [upd_ne (ne_of_none e hgH)]; exact sy c o e⟩
      rw [upd_same, List.take_add_one, hab, List.map_append, List.map_append, TL_lev33 hW hS ha hb, jtab_lev hW ha hb]
      rfl
    obtain ⟨x6, x7, rfl, hg3, hp3, hv3, hz3, sy⟩ := hI
    rw [vl] at hg3
    show _
    refine ⟨.ref tp, rfl, .ref pt, rfl, .ref tp, t, pt, wt, Tr, rfl, hT.same sy, hW, by omega, sy.sqT hpt, hwt.same sy, hS.sub, by have := hS.len; omega, fun H4 s4 => ?_⟩
    have t4 := sy.trans s4
    refine ⟨.ref tp, rfl, .ref pf, rfl, .ref tp, t, pf, wf, Fs, rfl, hT.same t4, hW, by omega, t4.sqT hpf, hwf.same t4, hF.span.sub, by have := hF.span.len; omega, fun H5 s5 => ?_⟩
    have t5 := t4.trans s5
    refine ⟨_, _, rfl, rfl, ?_⟩
    refine ⟨.ref tp, rfl, .ref pt, rfl, fun _ => True, .ref tp, .ref pt, t, prsD Tr, rfl, hT.same t5, hW, h1, h12, .tup (t5.sqT hpt) (da_prs29 (hwt.same t5)), fun H6 s6 => ?_⟩
    refine ⟨_, _, rfl, ?_⟩
    have t6 := t5.trans s6
    have u6 := (s4.trans s5).trans s6
    refine nx_mk ?_
    obtain ⟨w1, w2⟩ := sum_least33 hS hF
    have hg6 := u6 _ _ hg3
    have hz6 := hz3.same u6
    refine ⟨.ref g, rfl, g, rfl, ⟨_, SqL.of hg6⟩, fun D hD => lc_list (xs := _) (fun i Hx => Hx D = some (.lst []) ∧ Sm H6 Hx) ⟨upd_same, Sm.new hD⟩ (fun i Hx _ hQ => SqL.of (hQ.2 _ _ hg6)) (fun i v Hx hv hQ => ?_) (fun Hx hQ => ?_)⟩
    · obtain ⟨x, hx, rfl⟩ := List.mem_map.mp (List.mem_of_getElem? hv)
      obtain ⟨e, he, rfl⟩ := List.mem_map.mp hx
      obtain ⟨a1, a2, a3⟩ := mem_ppre.mp (show (e.1, e.2) ∈ ppre t.length t.length from List.mem_of_mem_take he)
      have := jn_le_tH33 hW hS a1 a3
      refine ⟨rfl, .int _, rfl, _, _, rfl, rfl, _, rfl, ?_⟩
      rw [decide_eq_false (show ¬ tH29 t Tr e.1 e.2 - jn t e.1 e.2 < 0 by omega)]
      exact iteF hQ
    obtain ⟨q1, q2⟩ := hQ
    refine ⟨Nat.zero_le _, fun l0 hl0 => ?_⟩
    have s7 := Sm.new (o := .lst []) hl0
    refine ⟨D, l0, [], rfl, rfl, SqL.of (s7 _ _ q1), SqL.of upd_same, _, rfl, iteNS rfl ?_⟩
    refine ⟨.int _, rfl, _, _, rfl, rfl, _, rfl, ?_⟩
    rw [decide_eq_false (show ¬ wsum t Tr - wsum t Fs < 0 by omega)]
    refine iteF ?_
    have u7 := q2.trans s7
    have hz7 := hz6.same u7
    generalize upd Hx l0 (.lst []) = H7 at u7 hz7
    refine ⟨.ref zp, rfl, .ref zp, TL29 t Tr, rfl, hz7, hWL, by omega, fun H8 b s8 hb => ?_⟩
    obtain rfl : b = true := hb.mpr (even_of_ultra (TL_ultra33 hW hS))
    refine ⟨.bl true, .bl true, rfl, .leaf (.inr ⟨_, rfl⟩), fun H9 s9 => ⟨_, rfl, ?_⟩⟩
    show _
    refine nx_mk ?_
    have t9 := t6.trans (u7.trans (s8.trans s9))
    have hz9 := hz7.same (s8.trans s9)
    have lb : leastB28 t (prsD Tr) = true ↔ Least t Tr := leastB_iff28.trans ⟨fun ⟨T', a, b⟩ => by rw [rows_inj29 (PyData.tuple.inj b)]; exact a, fun a => ⟨Tr, a, rfl⟩⟩
    have b1 : decide (V.int (wsum t Tr - wsum t Fs) = V.int 0) = leastB28 t (prsD Tr) := Bool.eq_iff_iff.mpr (by
      rw [lb, decide_eq_true_iff, ← w2]
      exact ⟨fun z => V.int.inj z, fun z => by rw [z]⟩)
    have b2 : PyData.eqv (tabD (TL29 t Tr)) (tabD (jtab t)) = leastB28 t (prsD Tr) := by
      rw [eqv_tabs]
      exact Bool.eq_iff_iff.mpr (by rw [lb, decide_eq_true_iff]; exact TL_eq33 hW hS)
    generalize leastB28 t (prsD Tr) = bb at b1 b2 lb
    refine ⟨.bl bb, rfl, .bl bb, rfl, small1000 (Nat.le_of_ble_eq_true rfl), fun p1 hp1 => ?_⟩
    have sa : Sm H9 (upd H9 p1 (.tup [.bl bb, .bl bb])) := Sm.new hp1
    have hq1 : SqT K (upd H9 p1 (.tup [.bl bb, .bl bb])) p1 [.bl bb, .bl bb] := SqT.of upd_same
    generalize upd H9 p1 (.tup [.bl bb, .bl bb]) = Ha at sa hq1
    have tA := t9.trans sa
    refine ⟨.int _, rfl, rfl, .ref zp, rfl, .ref jp, rfl, tabD (TL29 t Tr), tabD (jtab t), (hz9.same sa).dp, (hJ.same tA).dp, shaped_tab _, shaped_tab _, ?_⟩
    rw [b1, b2]
    refine ⟨small1000 (Nat.le_of_ble_eq_true rfl), fun p2 hp2 => ?_⟩
    have sb : Sm Ha (upd Ha p2 (.tup [.bl bb, .bl bb])) := Sm.new hp2
    have hq2 : SqT K (upd Ha p2 (.tup [.bl bb, .bl bb])) p2 [.bl bb, .bl bb] := SqT.of upd_same
    generalize upd Ha p2 (.tup [.bl bb, .bl bb]) = Hb at sb hq2
    refine ⟨.ref p1, .ref p2, rfl, EqY.tup (sb.sqT hq1) hq2 rfl (by show 2 ≤ 1000000; decide) (fun i u v e1 e2 => ?_), fun Hc sc => ⟨_, rfl, ?_⟩⟩
    · match i, e1, e2 with
      | 0, e1, e2 =>
        cases Option.some.inj e1
        cases Option.some.inj e2
        exact .leaf (.inr ⟨_, rfl⟩)
      | 1, e1, e2 =>
        cases Option.some.inj e1
        cases Option.some.inj e2
        exact .leaf (.inr ⟨_, rfl⟩)
      | i + 2, e1, e2 => simp at e1
    show _
    refine nx_mk ?_
    have tC := tA.trans (sb.trans sc)
    have hzc := hz9.same (sa.trans (sb.trans sc))
    refine ⟨.ref zp, rfl, .ref pt, rfl, fun _ => True, .ref zp, .ref pt, TL29 t Tr, prsD Tr, rfl, hzc, hWL, by omega, by omega, .tup (tC.sqT hpt) (da_prs29 (hwt.same tC)), fun Hd sd => ?_⟩
    rw [leastB_iff28.mpr ⟨Tr, TL_least33 hW hS, rfl⟩]
    exact ⟨.bl true, .bl true, rfl, .leaf (.inr ⟨_, rfl⟩), fun He se => q _ (tC.trans (sd.trans se))⟩
end
section
variable {P : Program} {w : World} {K : PySem.W.Frag} {mg : Str → Option Value} {base : Heap}
/-! ### the law: a pair of the least tree put in -/
def rD33 (t : List (List Int)) (Tr : List (Nat × Nat)) (f : Nat × Nat) : PyData := .tuple [.int (lev t f.1 f.2), prsD (Tr.erase f)]
/-- a row: the level of a pair, and the tree without it -/
def R33 (K : PySem.W.Frag) (t : List (List Int)) (Tr : List (Nat × Nat)) (H : Hp) (v : V) (f : Nat × Nat) : Prop := ∃ p q us, v = .ref p ∧ SqT K H p [.int (lev t f.1 f.2), .ref q] ∧ SqT K H q us ∧ Prs K H us (Tr.erase f)
theorem R33.same {t : List (List Int)} {Tr : List (Nat × Nat)} {H H' : Hp} {v : V} {f : Nat × Nat} (h : R33 K t Tr H v f) (s : Sm H H') : R33 K t Tr H' v f := by
  obtain ⟨p, q, us, h1, h2, h3, h4⟩ := h
  exact ⟨p, q, us, h1, s.sqT h2, s.sqT h3, h4.same s⟩
theorem R33.st {t : List (List Int)} {Tr : List (Nat × Nat)} {H : Hp} {v : V} {f : Nat × Nat} {l : Addr} {ys zs : List V} (h : R33 K t Tr H v f) (hl : H l = some (.lst ys)) : R33 K t Tr (upd H l (.lst zs)) v f := by
  obtain ⟨p, q, us, h1, h2, h3, h4⟩ := h
  exact ⟨p, q, us, h1, sqT_upd hl h2, sqT_upd hl h3, h4.upd hl⟩
theorem R33.dp {t : List (List Int)} {Tr : List (Nat × Nat)} {H : Hp} {v : V} {f : Nat × Nat} (h : R33 K t Tr H v f) : Dp K H v (rD33 t Tr f) := by
  obtain ⟨p, q, us, rfl, h2, h3, h4⟩ := h
  exact .tup h2 (.cons (.int _) (.cons (prs_dp h3 h4) .nil))
theorem dpA33 {t : List (List Int)} {Tr : List (Nat × Nat)} {H : Hp} : ∀ {vs : List V} {fs : List (Nat × Nat)}, Als (R33 K t Tr H) vs fs → DpAll K H vs (fs.map (rD33 t Tr))
  | [], [], _ => .nil
  | v :: vs, f :: fs, h => .cons (h.2 0 v f rfl rfl).dp (dpA33 (vs := vs) (fs := fs) ⟨Nat.succ.inj h.1, fun i v' f' a b => h.2 (i + 1) v' f' a b⟩)
  | [], f :: fs, h => by have := h.1; simp at this
  | v :: vs, [], h => by have := h.1; simp at this
theorem alikeAll33 : ∀ (A B : List PyData), (∀ a ∈ A, ∀ b ∈ B, PySem.W.alike a b = true) → PySem.W.alikeAll A B = true
  | [], _, _ => by unfold PySem.W.alikeAll; rfl
  | _ :: _, [], _ => by unfold PySem.W.alikeAll; rfl
  | a :: A, b :: B, h => by
    unfold PySem.W.alikeAll
    rw [h a List.mem_cons_self b List.mem_cons_self, Bool.true_and]
    exact alikeAll33 A B fun x hx y hy => h x (List.mem_cons_of_mem _ hx) y (List.mem_cons_of_mem _ hy)
theorem alike33 (t : List (List Int)) (Tr : List (Nat × Nat)) (f g : Nat × Nat) : PySem.W.alike (rD33 t Tr f) (rD33 t Tr g) = true := by
  have e : PySem.W.alike (prsD (Tr.erase f)) (prsD (Tr.erase g)) = true := by
    unfold prsD PySem.W.alike
    refine alikeAll33 _ _ fun a ha b hb => ?_
    obtain ⟨x, _, rfl⟩ := List.mem_map.mp ha
    obtain ⟨y, _, rfl⟩ := List.mem_map.mp hb
    exact alike_row _ _
  unfold rD33
  simp only [PySem.W.alike, PySem.W.alikeAll, Bool.and_true, Bool.true_and]
  exact e
theorem dep33 (t : List (List Int)) (Tr : List (Nat × Nat)) (f : Nat × Nat) : (rD33 t Tr f).depth ≤ 3 := by
  have h := dep_rows ((Tr.erase f).map e2)
  have e : (prsD (Tr.erase f)).depth = PyData.depthAll (((Tr.erase f).map e2).map rowD) + 1 := by simp [prsD, PyData.depth]
  unfold rD33
  simp only [PyData.depth, PyData.depthAll]
  omega
theorem depA33 (t : List (List Int)) (Tr : List (Nat × Nat)) : ∀ fs : List (Nat × Nat), PyData.depthAll (fs.map (rD33 t Tr)) ≤ 3
  | [] => by simp [PyData.depthAll]
  | f :: fs => by
    have a := dep33 t Tr f
    have b := depA33 t Tr fs
    simp only [List.map_cons, PyData.depthAll]
    omega
theorem lt33 {t : List (List Int)} {Tr : List (Nat × Nat)} {f g : Nat × Nat} (h : lev t f.1 f.2 < lev t g.1 g.2) : PySem.W.dataLt (rD33 t Tr f) (rD33 t Tr g) = true := by
  have a1 : PySem.W.alike (.int (lev t f.1 f.2)) (.int (lev t g.1 g.2)) = true := by simp only [PySem.W.alike]
  have ev : ∀ a b : Int, PyData.eqv (.int a) (.int b) = (a == b) := fun a b => by unfold PyData.eqv; rfl
  unfold rD33
  rw [PySem.W.dataLt_tuple, PySem.W.dataLt_cons a1, ev, if_neg (by rw [beq_iff_eq]; omega), PySem.W.dataLt_int]
  exact decide_eq_true h
theorem filt_take33 {α : Type} (p : α → Bool) {l : List α} {m : Nat} {x : α} (h : l[m]? = some x) : (l.take (m + 1)).filter p = (l.take m).filter p ++ (if p x = true then [x] else []) := by
  rw [List.take_add_one, h, List.filter_append]
  congr 1
  show [x].filter p = _
  cases q : p x <;> simp [List.filter, q]
/-- whether a pair can be taken out -/
noncomputable def ok33 (n : Nat) (Fs Tr : List (Nat × Nat)) (p f : Nat × Nat) : Bool := !decide (f ∈ Fs) && connB n (Tr.erase f ++ [p])
def sp_exch33 (K : PySem.W.Frag) : Sp := fun vs H Q _ => ∃ (tp pf pt pe : Addr) (t : List (List Int)) (wf wt : List V) (Fs Tr : List (Nat × Nat)) (a b : Nat), vs = [.ref tp, .ref pf, .ref pt, .ref pe] ∧ TT K H (.ref tp) t ∧ WT t ∧ 1 ≤ t.length ∧ t.length ≤ 12 ∧ SqT K H pf wf ∧ Prs K H wf Fs ∧ Least t Fs ∧ SqT K H pt wt ∧ Prs K H wt Tr ∧ Span t.length Tr ∧
  SqT K H pe [.int (a : Int), .int (b : Int)] ∧ (a, b) ∈ Fs ∧ (a, b) ∉ Tr ∧
  ∀ (H' : Hp) (l ps : Addr) (us : List V) (S : List (Nat × Nat)), Sm H H' → H' l = some (.lst [.ref ps, .bl true]) → SqT K H' ps us → Prs K H' us S → Span t.length S → (a, b) ∈ S → (∀ f ∈ Fs, f ∈ Tr → f ∈ S) → Q (.ref l) H'
set_option maxHeartbeats 8000000 in
theorem ok_exch33 {f f1 f2 f3 : Addr} {fd fd1 fd2 fd3 : FuncData} {k : Nat} (F : Fun K "_law_exchanged" "_law_exchanged" s_L_exchanged f fd) (D_L_is_connected : Df K mg "_law_is_connected" s_L_is_connected f1 fd1 ["_law_count_here", "_law_pairs_here"]) (D_L_sum : Df K mg "_law_sum" s_L_sum f2 fd2 ["_law_table_here", "_law_pairs_here"]) (D_L_level : Df K mg "_law_level" s_L_level f3 fd3 ["_law_table_here", "_law_one_here", "_law_other"]) (B : Bi mg) :
    FnOk P w K mg base CX0 (k + 3) f fd ["_law_table_here", "_law_first", "_law_tree", "_law_pair"] (sp_exch33 K) := by
  have G_L_is_connected : FnOk P w K mg base CX0 (k + 2) f1 fd1 ["_law_count_here", "_law_pairs_here"] (sp_conn K) := ok_conn D_L_is_connected.F B
  have G_L_sum : FnOk P w K mg base CX0 (k + 2) f2 fd2 ["_law_table_here", "_law_pairs_here"] (sp_wsumL K) := ok_wsumL D_L_sum.F D_L_level B
  refine F.ok sc_L_exchanged (fun vs H Q E h => ?_) (fun cdv A outer s H vs Q E hr h => ?_)
  · obtain ⟨tp, pf, pt, pe, t, wf, wt, Fs, Tr, a, b, rfl, _⟩ := h
    rfl
  · obtain ⟨tp, pf, pt, pe, t, wf, wt, Fs, Tr, a, b, rfl, hT, hW, h1, h12, hpf, hwf, hF, hpt, hwt, hS, hpe, hab, no, q⟩ := h
    have nd := sc_L_exchanged.nd
    refine ⟨_, (pss_cons (ps_set (i := 4) nd rfl (.inl rfl) (pe_lst pa_nil))
      (pss_cons (ps_for PassesOwn.never rfl (pi_tup (pv 2)) (pg_name (i := 5) nd rfl (.inr rfl))
      (pss_cons (ps_set (i := 6) nd rfl (.inl rfl) (pe_callTy call_tuple_of (by rfl) B.tuple (by decide +kernel) (pa_cons (pe_lc (own := [("_law_one_here", 8)]) (g := gName 8) (tt := tTest (tOp (rNeD K) (tVar 8) (tVar 5))) (te := tVar 8) rfl nd (pi_tup (pv 2)) (blkOk_by (N := N_L_exchanged) (sc := defScope s_L_exchanged) (by decide +kernel))
            (fun _ _ _ _ _ => pg_name (i := 8) nd rfl (.inl rfl)) (fun _ _ _ _ _ => pts_one (pt_cmpR (op_neD hr.units) (pv 8) (pv 5) (nomark _))) (fun _ _ _ _ _ => (pv 8))) pa_nil)))
      (pss_one (ps_if (PW.pt (pw_and (pt_cmpR (r := rNotInDT K) (op_notInDT (room65 hr)) (pv 5) (pv 1) (by rfl)) (pw_and1 (pt_val (pe_cl D_L_is_connected G_L_is_connected hr (pa_cons (pe_len B (pv 0)) (pa_cons (pe_op op_catW (pv 6) (pe_tup (pa_cons (pv 3) pa_nil))) pa_nil)))))))
      (pss_one (ps_expr (pe_bm PySem.F.plainAttrs_list PySem.F.slot_list_append PySem.F.type_list_append mt_append (pv 4) (pa_cons (pe_tup (pa_cons (pe_cl D_L_sum G_L_sum hr (pa_cons (pv 0) (pa_cons (pe_lst (pa_cons (pv 5) pa_nil)) pa_nil))) (pa_cons (pv 6) pa_nil))) pa_nil))))
      pss_nil))))
      (pss_cons (ps_asg (pe_callB (cr_maxDa rfl hr.units) (by rfl) B.max (by decide +kernel) (pa_cons (pv 4) pa_nil)) (pg_tup rfl (pgs_cons (pg_name (i := 7) nd rfl (.inl rfl)) (pgs_cons (pg_name (i := 6) nd rfl (.inl rfl)) pgs_nil))))
      (pss_one (ps_ret (pe_lst (pa_cons (pe_callTy call_tuple_of (by rfl) B.tuple (by decide +kernel) (pa_cons (pe_callB (cr_sortTD hr.units) (by rfl) B.sorted (by decide +kernel) (pa_cons (pe_op op_catW (pv 6) (pe_tup (pa_cons (pv 3) pa_nil))) pa_nil)) pa_nil)) (pa_cons (pe_cmpR op_ge (pv 7) (pe_cl D_L_sum G_L_sum hr (pa_cons (pv 0) (pa_cons (pe_lst (pa_cons (pv 3) pa_nil)) pa_nil))) (nomark _)) pa_nil)))))))), ?_⟩
    obtain ⟨tp', rs, e0, htp, hR⟩ := id hT
    cases e0
    have hrl : rs.length = t.length := hR.1
    have tl : Tr.length ≤ 11 := by have := hS.len; omega
    have wl : wt.length = Tr.length := hwt.1
    have hpm : (a, b) ∈ ppre t.length t.length := hF.span.sub _ hab
    refine ⟨Nat.zero_le _, fun ro hro => ?_⟩
    have s0 : Sm H (upd H ro (.lst [])) := Sm.new hro
    have hro0 : (upd H ro (.lst [])) ro = some (.lst []) := upd_same
    generalize upd H ro (.lst []) = H0 at s0 hro0
    refine nx_mk ?_
    refine ⟨.ref pt, rfl, pt, rfl, ⟨_, s0.sqT hpt⟩, for_tup (xs := wt) (fun i σ Hy => ∃ x5 x6 ys, σ = [some (.ref tp), some (.ref pf), some (.ref pt), some (.ref pe), some (.ref ro), x5, x6, none, none] ∧ Hy ro = some (.lst ys) ∧ Als (R33 K t Tr Hy) ys ((Tr.take i).filter (ok33 t.length Fs Tr (a, b))) ∧ ys.length ≤ i ∧ Sm H Hy)
      ⟨none, none, [], rfl, hro0, Als.nil, Nat.le_refl _, s0⟩ (fun i σ Hy _ hI => ?_) (fun i y σ Hy hy hI => ?_) (fun σ Hy hI => ?_)⟩
    · obtain ⟨_, _, _, _, _, _, _, sy⟩ := hI
      exact sy.sqT hpt
    · obtain ⟨x5, x6, ys, rfl, hr1, hA, yl, sy⟩ := hI
      have hi : i < Tr.length := by rw [← wl]; exact (List.getElem?_eq_some_iff.mp hy).1
      obtain ⟨⟨u, v⟩, huv⟩ : ∃ e, Tr[i]? = some e := ⟨_, List.getElem?_eq_getElem hi⟩
      obtain ⟨ya, rfl, hya⟩ := hwt.2 i y (u, v) hy huv
      have muv : (u, v) ∈ Tr := List.mem_of_getElem? huv
      have cut := filt_take33 (ok33 t.length Fs Tr (a, b)) huv
      show _
      refine ⟨.ref pt, rfl, pt, rfl, ⟨_, sy.sqT hpt⟩, fun D hD => lc_tup (xs := wt) (fun j Hx => ∃ zs, Hx D = some (.lst zs) ∧ Prs K Hx zs ((Tr.take j).filter fun e => decide (e ≠ (u, v))) ∧ zs.length ≤ j ∧ Sm Hy Hx) ⟨[], upd_same, Prs.nil, Nat.le_refl _, Sm.new hD⟩ (fun j Hx _ hQ => by obtain ⟨_, _, _, _, sx⟩ := hQ; exact (sy.trans sx).sqT hpt) (fun j z Hx hz hQ => ?_) (fun Hx hQ => ?_)⟩
      · obtain ⟨zs, z1, z2, z3, sx⟩ := hQ
        have hj : j < Tr.length := by rw [← wl]; exact (List.getElem?_eq_some_iff.mp hz).1
        obtain ⟨⟨c, e⟩, hce⟩ : ∃ e, Tr[j]? = some e := ⟨_, List.getElem?_eq_getElem hj⟩
        obtain ⟨za, rfl, hza⟩ := hwt.2 j z (c, e) hz hce
        have sx' := sy.trans sx
        have ef := filt_take33 (fun x => decide (x ≠ (u, v))) hce
        refine ⟨rfl, .ref za, rfl, .ref ya, rfl, _, _, dp_tup (ns := [(c : Int), (e : Int)]) (sx'.sqT hza), dp_tup (ns := [(u : Int), (v : Int)]) (sx'.sqT hya), shaped_tup _, shaped_tup _, _, rfl, ?_⟩
        rw [eqv_tup]
        by_cases hx : (c, e) = (u, v)
        · obtain ⟨rfl, rfl⟩ := Prod.mk.inj hx
          rw [decide_eq_true rfl]
          rw [if_neg (by simp), List.append_nil] at ef
          exact iteF ⟨zs, z1, by rw [ef]; exact z2, by omega, sx⟩
        · rw [decide_eq_false (fun z => hx (by
            have z1 := List.cons.inj z
            have z2 := List.cons.inj z1.2
            exact Prod.ext (Int.ofNat.inj z1.1) (Int.ofNat.inj z2.1)))]
          rw [if_pos (decide_eq_true hx)] at ef
          refine iteT ⟨.ref za, rfl, zs, z1, small1000 (by omega), zs ++ [.ref za], upd_same, ?_, by rw [List.length_append]; show zs.length + 1 ≤ j + 1; omega, fun cc o eo => by rw [upd_ne (ne_of_none eo hD)]; exact sx cc o eo⟩
          rw [ef]
          exact (z2.append (Prs.one (sx'.sqT hza))).upd z1
      obtain ⟨zs, z1, z2, z3, sx⟩ := hQ
      have ee : Tr.erase (u, v) = Tr.filter fun e => decide (e ≠ (u, v)) := by
        rw [hS.nd.erase_eq_filter]
        exact List.filter_congr fun x _ => by rw [Bool.eq_iff_iff]; simp
      rw [wl, List.take_length, ← ee] at z2
      refine ⟨D, _, rfl, .inl ⟨SqL.of z1, fun rq hrq => ?_⟩⟩
      have s5 : Sm Hx (upd Hx rq (.tup zs)) := Sm.new hrq
      have hq5 : SqT K (upd Hx rq (.tup zs)) rq zs := SqT.of upd_same
      have hz5 := z2.same s5
      have sy5 := sx.trans s5
      generalize upd Hx rq (.tup zs) = H5 at s5 hq5 hz5 sy5
      refine nx_mk ?_
      have t5 := sy.trans sy5
      have zl : (Tr.erase (u, v)).length + 1 = Tr.length := by
        rw [List.length_erase_of_mem muv]
        have := List.length_pos_of_mem muv
        omega
      have zsl := hz5.1
      refine ⟨.ref ya, rfl, .ref pf, rfl, _, _, dp_tup (ns := [(u : Int), (v : Int)]) (t5.sqT hya), prs_dp (t5.sqT hpf) (hwf.same t5), shaped_tup _, lay_tab _, _, rfl, ?_⟩
      have e3 : ((Fs.map e2).map rowD).any (fun z => PyData.eqv z (PyData.tuple ([(u : Int), (v : Int)].map PyData.int))) = decide ((u, v) ∈ Fs) := any_e2 Fs u v
      rw [e3]
      have okd : ok33 t.length Fs Tr (a, b) (u, v) = (!decide ((u, v) ∈ Fs) && connB t.length (Tr.erase (u, v) ++ [(a, b)])) := rfl
      have skip : ∀ Hz, Sm H5 Hz → ok33 t.length Fs Tr (a, b) (u, v) = false → ∃ x5 x6 ys, [some (V.ref tp), some (.ref pf), some (.ref pt), some (.ref pe), some (.ref ro), some (.ref ya), some (.ref rq), none, none] = [some (.ref tp), some (.ref pf), some (.ref pt), some (.ref pe), some (.ref ro), x5, x6, none, none] ∧ Hz ro = some (.lst ys) ∧ Als (R33 K t Tr Hz) ys ((Tr.take (i + 1)).filter (ok33 t.length Fs Tr (a, b))) ∧ ys.length ≤ i + 1 ∧ Sm H Hz := fun Hz sz e => by
        rw [e, if_neg Bool.false_ne_true, List.append_nil] at cut
        exact ⟨_, _, ys, rfl, sz _ _ (sy5 _ _ hr1), by rw [cut]; exact Als.mono hA fun _ _ r => r.same (sy5.trans sz), by omega, t5.trans sz⟩
      by_cases hm : (u, v) ∈ Fs
      · rw [decide_eq_true hm]
        refine iteF (iteF ?_)
        exact skip _ (Sm.refl _) (by rw [okd, decide_eq_true hm]; rfl)
      · rw [decide_eq_false hm]
        refine iteT ?_
        refine ⟨.ref tp, rfl, tp, rs, rfl, .inr (t5.sqT htp), ?_⟩
        refine ⟨.ref rq, rfl, .ref pe, rfl, small1000 (Nat.le_of_ble_eq_true rfl), fun p6 hp6 => ?_⟩
        have s6 : Sm H5 (upd H5 p6 (.tup [.ref pe])) := Sm.new hp6
        have hq6 : SqT K (upd H5 p6 (.tup [.ref pe])) p6 [.ref pe] := SqT.of upd_same
        generalize upd H5 p6 (.tup [.ref pe]) = H6 at s6 hq6
        refine ⟨rq, p6, _, _, rfl, rfl, s6.sqT hq5, hq6, Nat.le_trans (show zs.length + 1 ≤ 1000 by omega) (by decide), fun p7 H7 s7 hp7 => ?_⟩
        have s67 := s6.trans s7
        have hP7 : Prs K H7 (zs ++ [.ref pe]) (Tr.erase (u, v) ++ [(a, b)]) := (hz5.same s67).append (Prs.one ((t5.trans s67).sqT hpe))
        have hmem : ∀ e ∈ Tr.erase (u, v) ++ [(a, b)], e ∈ ppre t.length t.length := fun e he => by
          rcases List.mem_append.mp he with he | he
          · exact hS.sub e (List.mem_of_mem_erase he)
          · cases List.mem_singleton.mp he
            exact hpm
        refine ⟨t.length, p7, _, Tr.erase (u, v) ++ [(a, b)], by rw [hrl]; rfl, hp7, hP7, hmem, h1, by omega, fun H8 s8 => ⟨_, rfl, ?_⟩⟩
        have s58 := s67.trans s8
        cases hc : connB t.length (Tr.erase (u, v) ++ [(a, b)]) with
        | false => exact iteF (skip _ s58 (by rw [okd, hc, Bool.and_false]))
        | true =>
          refine iteT ?_
          rw [okd, hc, decide_eq_false hm, if_pos (show (!false && true) = true from rfl)] at cut
          have t8 := t5.trans s58
          have y8 := sy5.trans s58
          have hr8 := y8 _ _ hr1
          refine ⟨.ref ro, rfl, .inl ⟨rfl, _, SqL.of hr8⟩, ?_⟩
          refine ⟨.ref tp, rfl, .ref ya, rfl, small1000 (Nat.le_of_ble_eq_true rfl), fun l9 hl9 => ?_⟩
          have s9 : Sm H8 (upd H8 l9 (.lst [.ref ya])) := Sm.new hl9
          have t9 := t8.trans s9
          refine ⟨.ref tp, t, l9, [.ref ya], [(u, v)], rfl, hT.same t9, hW, by omega, SqL.of upd_same, Prs.one (t9.sqT hya), fun e he => by cases List.mem_singleton.mp he; exact hS.sub _ muv, Nat.le_of_ble_eq_true rfl, fun H10 s10 => ?_⟩
          rw [wsum_one]
          have s910 := s9.trans s10
          refine ⟨.ref rq, rfl, small1000 (Nat.le_of_ble_eq_true rfl), fun p11 hp11 => ?_⟩
          have s11 : Sm H10 (upd H10 p11 (.tup [.int (lev t (u, v).1 (u, v).2), .ref rq])) := Sm.new hp11
          have hq11 : SqT K (upd H10 p11 (.tup [.int (lev t (u, v).1 (u, v).2), .ref rq])) p11 [.int (lev t (u, v).1 (u, v).2), .ref rq] := SqT.of upd_same
          generalize upd H10 p11 (.tup [.int (lev t (u, v).1 (u, v).2), .ref rq]) = H11 at s11 hq11
          have s811 := s910.trans s11
          have hr11 := s811 _ _ hr8
          have R11 : R33 K t Tr H11 (.ref p11) (u, v) := ⟨p11, rq, zs, rfl, hq11, (s58.trans s811).sqT hq5, hz5.same (s58.trans s811)⟩
          refine ⟨ro, ys, _, rfl, rfl, hr11, small1000 (by omega), ?_⟩
          refine ⟨_, _, ys ++ [.ref p11], rfl, upd_same, ?_, by rw [List.length_append]; show ys.length + 1 ≤ i + 1; omega, fun c o e => by rw [upd_ne (ne_of_none e hro)]; exact (t8.trans s811) c o e⟩
          rw [cut]
          exact Als.mono ((Als.mono hA fun _ _ r => r.same (y8.trans s811)).append (Als.one R11)) fun _ _ r => r.st hr11
    · obtain ⟨x5, x6, ys, rfl, hr1, hA, yl, sy⟩ := hI
      rw [wl, List.take_length] at hA
      obtain ⟨f1, m1, nF, le1, cn1⟩ := exch33 hS hF hab no
      have mo : f1 ∈ Tr.filter (ok33 t.length Fs Tr (a, b)) := List.mem_filter.mpr ⟨m1, by unfold ok33; rw [decide_eq_false nF, connB_iff.mpr cn1]; rfl⟩
      have sub : ∀ f ∈ Tr.filter (ok33 t.length Fs Tr (a, b)), f ∈ Tr ∧ f ∉ Fs ∧ Conn t.length (Tr.erase f ++ [(a, b)]) := fun f hf => by
        obtain ⟨z1, z2⟩ := List.mem_filter.mp hf
        unfold ok33 at z2
        obtain ⟨z3, z4⟩ := Bool.and_eq_true_iff.mp z2
        exact ⟨z1, (fun z => by rw [decide_eq_true z] at z3; exact absurd z3 (by decide)), connB_iff.mp z4⟩
      generalize Tr.filter (ok33 t.length Fs Tr (a, b)) = fs at hA mo sub
      cases fs with
      | nil => cases mo
      | cons f0 rest =>
      show _
      refine ⟨.ref ro, rfl, ro, ys, rD33 t Tr f0, rest.map (rD33 t Tr), rfl, SqL.of hr1, dpA33 hA, ⟨fun x hx y hy => ?_, fun x hx => ?_⟩, Nat.le_trans (depA33 t Tr (f0 :: rest)) (by decide), fun i y d hy hd ed => ?_⟩
      · obtain ⟨x', _, rfl⟩ := List.mem_map.mp (show x ∈ (f0 :: rest).map (rD33 t Tr) from hx)
        obtain ⟨y', _, rfl⟩ := List.mem_map.mp (show y ∈ (f0 :: rest).map (rD33 t Tr) from hy)
        exact alike33 t Tr x' y'
      · obtain ⟨x', _, rfl⟩ := List.mem_map.mp (show x ∈ (f0 :: rest).map (rD33 t Tr) from hx)
        exact fun z => by unfold rD33 at z; cases z
      obtain ⟨g, hg, hRg⟩ := Als.at hA hy
      have eg : d = rD33 t Tr g := by
        have hd' : ((f0 :: rest).map (rD33 t Tr))[i]? = some d := hd
        rw [List.getElem?_map, hg] at hd'
        exact (Option.some.inj hd').symm
      have top := maxD_top (rest.map (rD33 t Tr)) (rD33 t Tr f0) [] (fun d h => absurd h List.not_mem_nil) (rD33 t Tr f1) (List.mem_map_of_mem (f := rD33 t Tr) mo)
      rw [← ed, eg] at top
      have lg : lev t f1.1 f1.2 ≤ lev t g.1 g.2 := by
        by_cases z : lev t g.1 g.2 < lev t f1.1 f1.2
        · rw [lt33 z] at top
          cases top
        · omega
      obtain ⟨g1, g2, g3⟩ := sub g (List.mem_of_getElem? hg)
      obtain ⟨p, q0, us, rfl, hp, hq0, hus⟩ := hRg
      refine ⟨p, _, rfl, hp, rfl, _, _, rfl, _, _, rfl, rfl, ?_⟩
      refine nx_mk ?_
      have usl := hus.1
      have gl : (Tr.erase g).length + 1 = Tr.length := by
        rw [List.length_erase_of_mem g1]
        have := List.length_pos_of_mem g1
        omega
      refine ⟨.ref q0, rfl, .ref pe, rfl, small1000 (Nat.le_of_ble_eq_true rfl), fun p6 hp6 => ?_⟩
      have s6 : Sm Hy (upd Hy p6 (.tup [.ref pe])) := Sm.new hp6
      have hq6 : SqT K (upd Hy p6 (.tup [.ref pe])) p6 [.ref pe] := SqT.of upd_same
      generalize upd Hy p6 (.tup [.ref pe]) = H6 at s6 hq6
      refine ⟨q0, p6, _, _, rfl, rfl, s6.sqT hq0, hq6, Nat.le_trans (show us.length + 1 ≤ 1000 by omega) (by decide), fun p7 H7 s7 hp7 => ?_⟩
      have s67 := s6.trans s7
      have hP7 : Prs K H7 (us ++ [.ref pe]) (Tr.erase g ++ [(a, b)]) := (hus.same s67).append (Prs.one ((sy.trans s67).sqT hpe))
      dsimp only [tNil, List.append_nil, List.nil_append, List.cons_append]
      refine srt_callT29 hp7 hP7 (fun bS yS S hbS pmS srS hSo => ?_)
      have s8 : Sm H7 (upd H7 bS (.lst yS)) := Sm.new hbS
      have hb8 : (upd H7 bS (.lst yS)) bS = some (.lst yS) := upd_same
      generalize upd H7 bS (.lst yS) = H8 at s8 hb8
      refine ⟨bS, _, rfl, .inl ⟨SqL.of hb8, fun ps hps => ?_⟩⟩
      have s9 : Sm H8 (upd H8 ps (.tup yS)) := Sm.new hps
      have hq9 : SqT K (upd H8 ps (.tup yS)) ps yS := SqT.of upd_same
      generalize upd H8 ps (.tup yS) = H9 at s9 hq9
      have s79 := s8.trans s9
      have t9 := (sy.trans s67).trans s79
      refine ⟨.int _, rfl, .ref tp, rfl, .ref pe, rfl, small1000 (Nat.le_of_ble_eq_true rfl), fun l10 hl10 => ?_⟩
      have s10 : Sm H9 (upd H9 l10 (.lst [.ref pe])) := Sm.new hl10
      refine ⟨.ref tp, t, l10, [.ref pe], [(a, b)], rfl, hT.same (t9.trans s10), hW, by omega, SqL.of upd_same, Prs.one ((t9.trans s10).sqT hpe), fun e he => by cases List.mem_singleton.mp he; exact hpm, Nat.le_of_ble_eq_true rfl, fun H11 s11 => ?_⟩
      rw [wsum_one]
      refine ⟨_, _, rfl, rfl, ?_⟩
      dsimp only [tNil]
      rw [decide_eq_true (show lev t a b ≤ lev t g.1 g.2 from Int.le_trans le1 lg)]
      refine ⟨small1000 (Nat.le_of_ble_eq_true rfl), fun l12 hl12 => ?_⟩
      have s12 := s10.trans s11
      have s13 : Sm H11 (upd H11 l12 (.lst [.ref ps, .bl true])) := Sm.new hl12
      have mS : ∀ e, e ∈ S ↔ e ∈ Tr.erase g ++ [(a, b)] := fun e => pmS.mem_iff
      refine q _ l12 ps yS S ((t9.trans s12).trans s13) upd_same ((s12.trans s13).sqT hq9) (hSo.same (s79.trans (s12.trans s13))) (span_sort29 ?_ (fun e he => ?_) ?_ g3 pmS srS) ((mS _).mpr (List.mem_append_right _ (List.mem_singleton.mpr rfl))) (fun f hf hfT => (mS f).mpr (List.mem_append_left _ ((List.mem_erase_of_ne (show f ≠ g from fun z => g2 (by rw [← z]; exact hf))).mpr hfT)))
      · refine List.nodup_append.mpr ⟨hS.nd.erase _, List.pairwise_singleton _ _, fun x hx y hy e => ?_⟩
        cases List.mem_singleton.mp hy
        subst e
        exact no (List.mem_of_mem_erase hx)
      · rcases List.mem_append.mp he with he | he
        · exact hS.sub e (List.mem_of_mem_erase he)
        · cases List.mem_singleton.mp he
          exact hpm
      · rw [List.length_append]
        show (Tr.erase g).length + 1 + 1 = _
        have := hS.len
        omega
end
section
variable {P : Program} {w : World} {K : PySem.W.Frag} {mg : Str → Option Value} {base : Heap}
/-! ### the law: led to the least tree -/
theorem eqv_prs33 (S T : List (Nat × Nat)) : PyData.eqv (prsD S) (prsD T) = decide (S = T) := by
  have e1 : PyData.eqv (prsD S) (prsD T) = PyData.eqv (tabD (S.map e2)) (tabD (T.map e2)) := rfl
  rw [e1, eqv_tabs]
  refine decide_eq_decide.mpr ⟨fun h => ?_, fun h => by rw [h]⟩
  exact rows_inj29 (by rw [h])
def sp_led33 (K : PySem.W.Frag) : Sp := fun vs H Q _ => ∃ (tp pf pt : Addr) (jv : V) (t : List (List Int)) (wf wt : List V) (Fs Tr : List (Nat × Nat)), vs = [.ref tp, jv, .ref pf, .ref pt] ∧ TT K H (.ref tp) t ∧ WT t ∧ 1 ≤ t.length ∧ t.length ≤ 12 ∧ TT K H jv (jtab t) ∧ SqT K H pf wf ∧ Prs K H wf Fs ∧ Least t Fs ∧ SqT K H pt wt ∧ Prs K H wt Tr ∧ Span t.length Tr ∧ ∀ H', Sm H H' → Q (.bl true) H'
set_option maxHeartbeats 8000000 in
theorem ok_led33 {f f1 f2 : Addr} {fd fd1 fd2 : FuncData} {k : Nat} (F : Fun K "_law_led_right" "_law_led_right" s_L_led_right f fd) (D_L_exchanged : Df K mg "_law_exchanged" s_L_exchanged f1 fd1 ["_law_table_here", "_law_first", "_law_tree", "_law_pair"]) (D_L_tree_right : Df K mg "_law_tree_right" s_L_tree_right f2 fd2 ["_law_table_here", "_law_joining", "_law_first", "_law_tree"])
    (G_L_exchanged : FnOk P w K mg base CX0 k f1 fd1 ["_law_table_here", "_law_first", "_law_tree", "_law_pair"] (sp_exch33 K)) (G_L_tree_right : FnOk P w K mg base CX0 k f2 fd2 ["_law_table_here", "_law_joining", "_law_first", "_law_tree"] (sp_tr33 K)) (B : Bi mg) :
    FnOk P w K mg base CX0 (k + 1) f fd ["_law_table_here", "_law_joining", "_law_first", "_law_tree"] (sp_led33 K) := by
  refine F.ok sc_L_led_right (fun vs H Q E h => ?_) (fun cdv A outer s H vs Q E hr h => ?_)
  · obtain ⟨tp, pf, pt, jv, t, wf, wt, Fs, Tr, rfl, _⟩ := h
    rfl
  · obtain ⟨tp, pf, pt, jv, t, wf, wt, Fs, Tr, rfl, hT, hW, h1, h12, hJ, hpf, hwf, hF, hpt, hwt, hS, q⟩ := h
    have nd := sc_L_led_right.nd
    refine ⟨_, (pss_cons (ps_for PassesOwn.never rfl (pi_tup (pv 2)) (pg_name (i := 4) nd rfl (.inl rfl))
      (pss_one (ps_if (pt_cmpR (r := rNotInDT K) (op_notInDT (room65 hr)) (pv 4) (pv 3) (by rfl))
      (pss_cons (ps_asg (pe_cl D_L_exchanged G_L_exchanged hr (pa_cons (pv 0) (pa_cons (pv 2) (pa_cons (pv 3) (pa_cons (pv 4) pa_nil))))) (pg_unl rfl (pgs_cons (pg_name (i := 3) nd rfl (.inl rfl)) (pgs_cons (pg_name (i := 5) nd rfl (.inl rfl)) pgs_nil))))
      (pss_one (ps_if (PW.pt (pw_or (pt_not (pt_val (pv 5))) (pw_or1 (pt_not (pt_val (pe_cl D_L_tree_right G_L_tree_right hr (pa_cons (pv 0) (pa_cons (pv 1) (pa_cons (pv 2) (pa_cons (pv 3) pa_nil))))))))))
      (pss_one (ps_ret pe_bl))
      pss_nil)))
      pss_nil)))
      (pss_one (ps_ret (pe_cmpR (op_eqD hr.units) (pv 3) (pv 2) (nomark _))))), ?_⟩
    have wl : wf.length = Fs.length := hwf.1
    refine ⟨.ref pf, rfl, pf, rfl, ⟨_, hpf⟩, for_tup (xs := wf) (fun i σ Hy => ∃ x4 x5 pt' wt' Tr', σ = [some (.ref tp), some jv, some (.ref pf), some (.ref pt'), x4, x5] ∧ SqT K Hy pt' wt' ∧ Prs K Hy wt' Tr' ∧ Span t.length Tr' ∧ (∀ f ∈ Fs.take i, f ∈ Tr') ∧ Sm H Hy)
      ⟨none, none, pt, wt, Tr, rfl, hpt, hwt, hS, fun f hf => absurd hf (by rw [List.take_zero]; exact List.not_mem_nil), Sm.refl _⟩ (fun i σ Hy _ hI => ?_) (fun i y σ Hy hy hI => ?_) (fun σ Hy hI => ?_)⟩
    · obtain ⟨_, _, _, _, _, _, _, _, _, _, sy⟩ := hI
      exact sy.sqT hpf
    · obtain ⟨x4, x5, pt', wt', Tr', rfl, hpt', hwt', hS', hin, sy⟩ := hI
      have hi : i < Fs.length := by rw [← wl]; exact (List.getElem?_eq_some_iff.mp hy).1
      obtain ⟨⟨a, b⟩, hab⟩ : ∃ e, Fs[i]? = some e := ⟨_, List.getElem?_eq_getElem hi⟩
      obtain ⟨ya, rfl, hya⟩ := hwf.2 i y (a, b) hy hab
      have mF : (a, b) ∈ Fs := List.mem_of_getElem? hab
      have nxt : ∀ (f : Nat × Nat), f ∈ Fs.take (i + 1) → f ∈ Fs.take i ∨ f = (a, b) := fun f hf => by
        rw [List.take_add_one, hab] at hf
        rcases List.mem_append.mp hf with hf | hf
        · exact .inl hf
        · exact .inr (List.mem_singleton.mp hf)
      show _
      refine ⟨.ref ya, rfl, .ref pt', rfl, _, _, dp_tup (ns := [(a : Int), (b : Int)]) (sy.sqT hya), prs_dp hpt' hwt', shaped_tup _, lay_tab _, _, rfl, ?_⟩
      have e3 : ((Tr'.map e2).map rowD).any (fun z => PyData.eqv z (PyData.tuple ([(a : Int), (b : Int)].map PyData.int))) = decide ((a, b) ∈ Tr') := any_e2 Tr' a b
      rw [e3]
      by_cases hm : (a, b) ∈ Tr'
      · rw [decide_eq_true hm]
        refine iteF ⟨_, _, pt', wt', Tr', rfl, hpt', hwt', hS', fun f hf => ?_, sy⟩
        rcases nxt f hf with z | z
        · exact hin f z
        · rw [z]; exact hm
      · rw [decide_eq_false hm]
        refine iteT ?_
        refine ⟨.ref tp, rfl, .ref pf, rfl, .ref pt', rfl, .ref ya, rfl, tp, pf, pt', ya, t, wf, wt', Fs, Tr', a, b, rfl, hT.same sy, hW, h1, h12, sy.sqT hpf, hwf.same sy, hF, hpt', hwt', hS', sy.sqT hya, mF, hm, fun H6 l ps us S s6 hl hps hus hS6 hab6 keep => ?_⟩
        refine ⟨l, _, rfl, SqL.of hl, rfl, _, _, rfl, _, _, rfl, rfl, ?_⟩
        refine nx_mk ?_
        refine ⟨.bl true, rfl, _, rfl, iteF ?_⟩
        have t6 := sy.trans s6
        refine ⟨.ref tp, rfl, jv, rfl, .ref pf, rfl, .ref ps, rfl, tp, pf, ps, jv, t, wf, us, Fs, S, rfl, hT.same t6, hW, h1, h12, hJ.same t6, t6.sqT hpf, hwf.same t6, hF, hps, hus, hS6, fun H7 s7 => ⟨_, rfl, ?_⟩⟩
        show _
        refine ⟨_, _, ps, us, S, rfl, s7.sqT hps, hus.same s7, hS6, fun f hf => ?_, t6.trans s7⟩
        rcases nxt f hf with z | z
        · exact keep f (List.mem_of_mem_take z) (hin f z)
        · rw [z]; exact hab6
    · obtain ⟨x4, x5, pt', wt', Tr', rfl, hpt', hwt', hS', hin, sy⟩ := hI
      rw [wl, List.take_length] at hin
      show _
      have e : Tr' = Fs := Span.eq hS' hF.span fun e => ⟨fun h => hF.span.eq_of_sub hS' hin h, fun h => hin e h⟩
      refine ⟨.ref pt', rfl, .ref pf, rfl, prsD Tr', prsD Fs, prs_dp hpt' hwt', prs_dp (sy.sqT hpf) (hwf.same sy), lay_tab _, lay_tab _, ?_⟩
      rw [eqv_prs33, decide_eq_true e]
      exact q _ sy
end
section
variable {P : Program} {w : World} {K : PySem.W.Frag} {mg : Str → Option Value} {base : Heap}
/-! ### the beginning of a drawing -/
def sp_draws (K : PySem.W.Frag) : Sp := fun vs H Q _ => ∃ (a : Addr) (ns : List Int), vs = [.ref a] ∧ SqL K H a (ns.map V.int) ∧ ns.length ≤ 63 ∧ ∀ (H' : Hp) (d c r : Addr), Sm H H' → Dr H' d c r 0 → H d = none → H c = none → H r = none → Q (.ref d) H'
theorem ok_draws {f : Addr} {fd : FuncData} {k : Nat} (F : Fun K "_law_draws" "_law_draws" s_L_draws f fd) (B : Bi mg) : FnOk P w K mg base CX0 (k + 1) f fd ["_law_script"] (sp_draws K) := by
  refine F.ok sc_L_draws (fun vs H Q E h => ?_) (fun cdv A outer s H vs Q E hr h => ?_)
  · obtain ⟨a, ns, rfl, _⟩ := h
    rfl
  · obtain ⟨a, ns, rfl, hS, h63, q⟩ := h
    have nd := sc_L_draws.nd
    refine ⟨_, pss_cons (ps_set (i := 1) nd rfl (.inl rfl) (pe_op op_cat (pe_callTy call_list_of (by rfl) B.list (by decide +kernel) (pa_cons (pe_slice sl_list (pv 0) po_none (po_some pe_int)) pa_nil))
        (pe_op op_rep (pe_lst (pa_cons pe_int pa_nil)) (pe_callTy call_int1 (by rfl) B.int (by decide +kernel) (pa_cons (pe_cmpR op_eq (pe_len B (pv 0)) pe_int (nomark _)) pa_nil)))))
      (pss_one (ps_ret (pe_lst (pa_cons (pv 1) (pa_cons pe_int (pa_cons
        (pe_lc (own := [("_law_cell", 2)]) (g := gName 2) (tt := tYes) rfl nd (pi_list (pv 1)) (blkOk_by (N := N_L_draws) (sc := defScope s_L_draws) (by decide +kernel))
          (fun _ _ _ _ _ => pg_name (i := 2) nd rfl (.inl rfl)) (fun _ _ _ _ _ => pts_nil)
          (fun _ _ _ _ _ => pe_op op_mul (pv 2) (pe_callTy call_int1 (by rfl) B.int (by decide +kernel) (pa_cons (pe_cmpR op_ge (pv 2) (pe_op op_pow pe_int pe_int) (nomark _)) pa_nil)))) pa_nil)))))), ?_⟩
    refine ⟨.ref a, rfl, 63, rfl, a, _, rfl, hS, fun p1 hp1 => ?_⟩
    have e63 : cutV (ns.map V.int) none (some 63) = ns.map V.int := by
      rw [show (63 : Int) = ((63 : Nat) : Int) from rfl, cut_to]
      exact List.take_of_length_le (by rw [List.length_map]; exact h63)
    rw [e63]
    have s1 : Sm H (upd H p1 (.lst (ns.map V.int))) := Sm.new hp1
    refine ⟨p1, _, rfl, .inl (SqL.of upd_same), fun p2 hp2 => ?_⟩
    have s2 := s1.trans (Sm.new (o := .lst (ns.map V.int)) hp2)
    refine ⟨(by show 1 ≤ sizeLine; decide), fun p3 hp3 => ?_⟩
    have s3 := s2.trans (Sm.new (o := .lst [.int 0]) hp3)
    refine ⟨.ref a, rfl, a, _, rfl, .inl (s3.sqL hS), rfl, .inr ⟨_, rfl, ?_⟩⟩
    obtain ⟨kk, ek, ekk⟩ : ∃ kk : Nat, (if decide (V.int (((ns.map V.int).length : Nat) : Int) = V.int 0) = true then (1 : Int) else 0) = (kk : Int) ∧ (kk = if ns.length = 0 then 1 else 0) := by
      by_cases z : ns.length = 0
      · exact ⟨1, by rw [List.length_map, z]; rfl, by rw [if_pos z]⟩
      · refine ⟨0, ?_, by rw [if_neg z]⟩
        rw [List.length_map, decide_eq_false (fun e => z (by have := V.int.inj e; omega))]
        rfl
    rw [ek]
    have kk1 : kk ≤ 1 := by rw [ekk]; split <;> omega
    refine ⟨p3, _, _, rfl, rfl, upd_same, by omega, by omega, ?_, fun p4 hp4 => ?_⟩
    · show 1 * ((kk : Int).toNat) ≤ sizeLine
      exact Nat.le_of_lt (small1000 (by omega))
    obtain ⟨zs, ez, lz⟩ : ∃ zs : List Int, (List.replicate (kk : Int).toNat [V.int 0]).flatten = zs.map V.int ∧ zs.length = kk := by
      match kk, kk1 with
      | 0, _ => exact ⟨[], rfl, rfl⟩
      | 1, _ => exact ⟨[0], rfl, rfl⟩
    rw [ez]
    have s4 := s3.trans (Sm.new (o := .lst (zs.map V.int)) hp4)
    have h24 : (upd (upd (upd (upd H p1 (.lst (ns.map V.int))) p2 (.lst (ns.map V.int))) p3 (.lst [.int 0])) p4 (.lst (zs.map V.int))) p2 = some (.lst (ns.map V.int)) :=
      Sm.new hp4 _ _ (Sm.new hp3 _ _ upd_same)
    refine ⟨p2, p4, _, _, rfl, rfl, h24, upd_same, ?_, fun c hc => ?_⟩
    · rw [List.length_map, List.length_map]
      exact Nat.le_of_lt (small1000 (by omega))
    rw [← List.map_append]
    obtain ⟨cells, hcells⟩ : ∃ cells, cells = ns ++ zs := ⟨_, rfl⟩
    rw [← hcells]
    have lc : 0 < cells.length ∧ cells.length ≤ 64 := by
      rw [hcells, List.length_append, lz, ekk]
      split <;> omega
    have cH : H c = none := s4.free hc
    have s5 := s4.trans (Sm.new (o := .lst (cells.map V.int)) hc)
    have c5 : (upd (upd (upd (upd (upd H p1 (.lst (ns.map V.int))) p2 (.lst (ns.map V.int))) p3 (.lst [.int 0])) p4 (.lst (zs.map V.int))) c (.lst (cells.map V.int))) c = some (.lst (cells.map V.int)) := upd_same
    generalize upd (upd (upd (upd (upd H p1 (.lst (ns.map V.int))) p2 (.lst (ns.map V.int))) p3 (.lst [.int 0])) p4 (.lst (zs.map V.int))) c (.lst (cells.map V.int)) = H5 at s5 c5
    -- the three
    refine ⟨.ref c, rfl, .ref c, rfl, c, rfl, ⟨_, SqL.of c5⟩, fun r hr0 => lc_list (xs := cells.map V.int) (fun i Hx => ∃ rs : List Int, Hx r = some (.lst (rs.map V.int)) ∧ rs.length = i ∧ (∀ x ∈ rs, 0 ≤ x) ∧ Sm H5 Hx) ⟨[], upd_same, rfl, fun x hx => by simp at hx, Sm.new hr0⟩ (fun i Hx hi hP => ?_) (fun i v Hx hv hP => ?_) (fun Hx hP => ?_)⟩
    · obtain ⟨_, _, _, _, h4⟩ := hP
      exact SqL.of (h4 _ _ c5)
    · obtain ⟨rs, h1, h2, h3, h4⟩ := hP
      have hi : i < cells.length := by
        have := (List.getElem?_eq_some_iff.mp hv).1
        rwa [List.length_map] at this
      obtain ⟨x, rfl⟩ : ∃ x : Int, v = .int x := by
        rw [List.getElem?_map, List.getElem?_eq_getElem hi] at hv
        exact ⟨_, (Option.some.inj hv).symm⟩
      refine ⟨rfl, .int x, rfl, .int x, rfl, _, _, rfl, rfl, ⟨by decide, by decide, by decide⟩, _, _, rfl, rfl, .inr ⟨_, rfl, ?_⟩⟩
      obtain ⟨b, hb, hb2⟩ : ∃ b : Int, (if decide ((10 : Int) ^ (18 : Int).toNat ≤ x) = true then (1 : Int) else 0) = b ∧ ((b = 1 ∧ (10 : Int) ^ (18 : Int).toNat ≤ x) ∨ b = 0) := by
        by_cases z : (10 : Int) ^ (18 : Int).toNat ≤ x
        · exact ⟨1, by rw [decide_eq_true z]; rfl, .inl ⟨rfl, z⟩⟩
        · exact ⟨0, by rw [decide_eq_false z]; rfl, .inr rfl⟩
      rw [hb]
      refine ⟨_, _, rfl, rfl, .inr ⟨?_, ?_⟩, _, h1, by rw [List.length_map]; exact small1000 (by omega), rs ++ [x * b], ?_, by rw [List.length_append, h2]; rfl, ?_, ?_⟩
      · rcases hb2 with ⟨z, _⟩ | z <;> rw [z] <;> decide
      · rcases hb2 with ⟨z, _⟩ | z <;> rw [z] <;> decide
      · rw [upd_same, List.map_append]; rfl
      · intro y hy
        rcases List.mem_append.mp hy with hy | hy
        · exact h3 y hy
        · rw [List.mem_singleton.mp hy]
          rcases hb2 with ⟨z, zx⟩ | z
          · rw [z, Int.mul_one]
            exact Int.le_trans (by decide) zx
          · rw [z, Int.mul_zero]
            exact Int.le_refl 0
      · intro e o he
        rw [upd_ne (ne_of_none he hr0)]
        exact h4 e o he
    · obtain ⟨rs, h1, h2, h3, h4⟩ := hP
      rw [List.length_map] at h2
      refine ⟨(by show 3 ≤ sizeLine; decide), fun d hd0 => ?_⟩
      have c6 := h4 _ _ c5
      have s6 := s5.trans h4
      refine q _ d c r (s6.trans (Sm.new hd0)) ⟨⟨cells, rs, 0, upd_same, Sm.new hd0 _ _ c6, Sm.new hd0 _ _ h1, h2.symm, lc.1, lc.2, Nat.le_refl _, h3⟩, (ne_of_none c6 hd0).symm, (ne_of_none h1 hd0).symm, ne_of_none c5 hr0⟩ (s6.free hd0) cH (s5.free hr0)
end
section
variable {P : Program} {w : World} {K : PySem.W.Frag} {mg : Str → Option Value} {base : Heap}
/-! ### the law -/
structure LawDefs (K : PySem.W.Frag) (mg : Str → Option Value) : Prop where
  D : DrawDefs K mg
  E : EvenDefs K mg
  G : GridDefs K mg
  L : Tl33 K mg
  draws : ∃ f fd, Df K mg "_law_draws" s_L_draws f fd ["_law_script"]
  table : ∃ f fd, Df K mg "_law_table" s_L_table f fd ["_law_drawn", "_law_count_here"]
  equal : ∃ f fd, Df K mg "_law_equal" s_L_equal f fd ["_law_one_here", "_law_other"]
  pairs : ∃ f fd, Df K mg "_law_pairs" s_L_pairs f fd ["_law_count_here"]
  conn : ∃ f fd, Df K mg "_law_is_connected" s_L_is_connected f fd ["_law_count_here", "_law_pairs_here"]
  sum : ∃ f fd, Df K mg "_law_sum" s_L_sum f fd ["_law_table_here", "_law_pairs_here"]
  all' : ∃ f fd, Df K mg "_law_all_trees" s_L_all_trees f fd ["_law_count_here"]
  shuf : ∃ f fd, Df K mg "_law_shuffled" s_L_shuffled f fd ["_law_drawn", "_law_count_here"]
  some' : ∃ f fd, Df K mg "_law_some_tree" s_L_some_tree f fd ["_law_drawn", "_law_count_here"]
  lowt : ∃ f fd, Df K mg "_law_lowest_tree" s_L_lowest_tree f fd ["_law_drawn", "_law_table_here"]
  right : ∃ f fd, Df K mg "_law_tree_right" s_L_tree_right f fd ["_law_table_here", "_law_joining", "_law_first", "_law_tree"]
  exch : ∃ f fd, Df K mg "_law_exchanged" s_L_exchanged f fd ["_law_table_here", "_law_first", "_law_tree", "_law_pair"]
  led : ∃ f fd, Df K mg "_law_led_right" s_L_led_right f fd ["_law_table_here", "_law_joining", "_law_first", "_law_tree"]
  uneven : ∃ f fd, Df K mg "uneven_items" s_uneven_items f fd ["table"]
  isn : ∃ f fd, Df K mg "is_nested" s_is_nested f fd ["table"]
  below : ∃ f fd, Df K mg "nested_below" s_nested_below f fd ["table"]
  tlev : ∃ f fd, Df K mg "tree_levels" s_tree_levels f fd ["table", "value"]
  sumof : ∃ f fd, Df K mg "sum_of" s_sum_of f fd ["table", "tree"]
  least : ∃ f fd, Df K mg "least_tree" s_least_tree f fd ["table"]
  isl : ∃ f fd, Df K mg "is_least_tree" s_is_least_tree f fd ["table", "value"]
def sp_law (K : PySem.W.Frag) : Sp := fun vs H Q _ => ∃ (a : Addr) (ns : List Int), vs = [.ref a] ∧ SqL K H a (ns.map V.int) ∧ ns.length ≤ 63 ∧ ∀ H', Q (.bl true) H'
set_option maxHeartbeats 8000000 in
theorem ok_law {f : Addr} {fd : FuncData} (F : Fun K "law" "law" s_law f fd) (T : LawDefs K mg) : FnOk P w K mg base CX0 11 f fd ["_law_script"] (sp_law K) := by
  have B := T.D.B
  obtain ⟨fN, fdN, D_L_next⟩ := T.D.next
  obtain ⟨fO, fdO, D_L_one⟩ := T.D.one
  obtain ⟨f2, fd2, D_L_count⟩ := T.D.count
  obtain ⟨fL, fdL, D_L_level⟩ := T.D.level
  obtain ⟨f1, fd1, D_L_draws⟩ := T.draws
  obtain ⟨f3, fd3, D_L_table⟩ := T.table
  obtain ⟨f4, fd4, D_L_equal⟩ := T.equal
  obtain ⟨f7, fd7, D_L_pairs⟩ := T.pairs
  obtain ⟨f8, fd8, D_L_is_connected⟩ := T.conn
  obtain ⟨f11, fd11, D_L_sum⟩ := T.sum
  obtain ⟨f12, fd12, D_L_shuffled⟩ := T.shuf
  obtain ⟨f13, fd13, D_L_some_tree⟩ := T.some'
  obtain ⟨f14, fd14, D_L_lowest_tree⟩ := T.lowt
  obtain ⟨f15, fd15, D_L_all_trees⟩ := T.all'
  obtain ⟨f16, fd16, D_L_tree_right⟩ := T.right
  obtain ⟨f17, fd17, D_L_exchanged⟩ := T.exch
  obtain ⟨f18, fd18, D_L_led_right⟩ := T.led
  obtain ⟨f19, fd19, D_uneven_items⟩ := T.uneven
  obtain ⟨f20, fd20, D_is_nested⟩ := T.isn
  obtain ⟨f21, fd21, D_nested_below⟩ := T.below
  obtain ⟨f22, fd22, D_tree_levels⟩ := T.tlev
  obtain ⟨f23, fd23, D_level_between⟩ := T.L.lb
  obtain ⟨f24, fd24, D_pairs_of⟩ := T.L.pairs
  obtain ⟨f25, fd25, D_is_whole⟩ := T.L.whole
  obtain ⟨f26, fd26, D_is_item⟩ := T.L.item
  obtain ⟨f27, fd27, D_is_pair⟩ := T.L.pair
  obtain ⟨f28, fd28, D_own_sets⟩ := T.L.own
  obtain ⟨f29, fd29, D_united⟩ := T.L.united
  obtain ⟨f30, fd30, D_connects_all⟩ := T.L.conn
  obtain ⟨f31, fd31, D_is_spanning⟩ := T.L.span
  obtain ⟨f32, fd32, D_sum_of⟩ := T.sumof
  obtain ⟨f33, fd33, D_least_tree⟩ := T.least
  obtain ⟨f34, fd34, D_is_least_tree⟩ := T.isl
  have G_L_draws : FnOk P w K mg base CX0 10 f1 fd1 ["_law_script"] (sp_draws K) := ok_draws D_L_draws.F B
  have G_L_next : FnOk P w K mg base CX0 10 fN fdN ["_law_drawn", "_law_many"] sp_next := ok_next D_L_next.F B
  have G_L_count : FnOk P w K mg base CX0 10 f2 fd2 ["_law_drawn", "_law_most"] sp_count := (ok_count D_L_count.F D_L_next B).mono (by decide)
  have G_L_table : FnOk P w K mg base CX0 10 f3 fd3 ["_law_drawn", "_law_count_here"] (sp_table K) := (ok_table D_L_table.F T.D).mono (by decide)
  have G_L_equal : FnOk P w K mg base CX0 8 f4 fd4 ["_law_one_here", "_law_other"] (sp_equalY K 7) := ok_equalY D_L_equal B 7
  have G_L_some_tree : FnOk P w K mg base CX0 10 f13 fd13 ["_law_drawn", "_law_count_here"] (sp_some29 K) := (ok_some29 D_L_some_tree.F D_L_shuffled D_L_next B).mono (by decide)
  have G_L_lowest_tree : FnOk P w K mg base CX0 10 f14 fd14 ["_law_drawn", "_law_table_here"] (sp_low29 K) := (ok_low29 D_L_lowest_tree.F D_L_shuffled D_L_next D_L_sum D_L_level D_L_pairs B).mono (by decide)
  have G_L_all_trees : FnOk P w K mg base CX0 10 f15 fd15 ["_law_count_here"] (sp_trees K) := ok_trees (k := 8) D_L_all_trees.F D_L_pairs D_L_is_connected B
  have G_L_sum : FnOk P w K mg base CX0 8 f11 fd11 ["_law_table_here", "_law_pairs_here"] (sp_wsum K) := ok_wsum (k := 6) D_L_sum.F D_L_level B
  have G_is_spanning : FnOk P w K mg base CX0 5 f31 fd31 ["table", "value"] (sp_isspan29 K) := (ok_isspan29 D_is_spanning.F D_is_pair D_connects_all D_own_sets D_united D_is_item D_is_whole B).mono (by decide)
  have G_sum_of : FnOk P w K mg base CX0 5 f32 fd32 ["table", "tree"] (sp_sum28 K) := ok_sum28 (k := 3) D_sum_of.F D_level_between B
  have G_least_tree : FnOk P w K mg base CX0 5 f33 fd33 ["table"] (sp_least28 K) := ok_least28 (k := 3) D_least_tree.F D_own_sets D_united D_pairs_of D_level_between B
  have G_least10 : FnOk P w K mg base CX0 10 f33 fd33 ["table"] (sp_least28 K) := G_least_tree.mono (by decide)
  have G_is_least_tree : FnOk P w K mg base CX0 8 f34 fd34 ["table", "value"] (sp_isleast28 K) := (ok_isleast28 D_is_least_tree.F D_is_spanning D_sum_of D_least_tree G_is_spanning G_sum_of G_least_tree B).mono (by decide)
  have G_is_nested : FnOk P w K mg base CX0 8 f20 fd20 ["table"] (sp_isn K) := (ok_isn D_is_nested.F D_uneven_items T.E).mono (by decide)
  have G_nested_below : FnOk P w K mg base CX0 10 f21 fd21 ["table"] (sp_below K) := (ok_below D_nested_below.F T.G).mono (by decide)
  have G_tree_levels : FnOk P w K mg base CX0 8 f22 fd22 ["table", "value"] (sp_tlev33 K) := (ok_tlev33 D_tree_levels.F T.L).mono (by decide)
  have G_tr9 : FnOk P w K mg base CX0 9 f16 fd16 ["_law_table_here", "_law_joining", "_law_first", "_law_tree"] (sp_tr33 K) := ok_tr33 D_L_tree_right.F D_tree_levels D_L_pairs D_L_level D_L_sum D_is_least_tree D_L_equal D_is_nested G_tree_levels G_L_sum G_is_least_tree G_L_equal G_is_nested B
  have G_L_tree_right : FnOk P w K mg base CX0 10 f16 fd16 ["_law_table_here", "_law_joining", "_law_first", "_law_tree"] (sp_tr33 K) := G_tr9.mono (by decide)
  have G_L_exchanged : FnOk P w K mg base CX0 9 f17 fd17 ["_law_table_here", "_law_first", "_law_tree", "_law_pair"] (sp_exch33 K) := ok_exch33 (k := 6) D_L_exchanged.F D_L_is_connected D_L_sum D_L_level B
  have G_L_led_right : FnOk P w K mg base CX0 10 f18 fd18 ["_law_table_here", "_law_joining", "_law_first", "_law_tree"] (sp_led33 K) := ok_led33 D_L_led_right.F D_L_exchanged D_L_tree_right G_L_exchanged G_tr9 B
  refine F.ok sc_law (fun vs H Q E h => ?_) (fun cdv A outer s H vs Q E hr h => ?_)
  · obtain ⟨a, ns, rfl, _⟩ := h
    rfl
  · obtain ⟨a, ns0, rfl, hS, h63, q⟩ := h
    have nd := sc_law.nd
    refine ⟨_, (pss_cons (ps_set (i := 1) nd rfl (.inl rfl) (pe_cl D_L_draws G_L_draws hr (pa_cons (pv 0) pa_nil)))
      (pss_cons (ps_for PassesOwn.never rfl (pi_range1 rfl B.range (pa_cons pe_int pa_nil)) (pg_name (i := 2) nd rfl (.inl rfl))
      (pss_cons (ps_set (i := 3) nd rfl (.inl rfl) (pe_cl D_L_table G_L_table hr (pa_cons (pv 1) (pa_cons (pe_ix ix_list (pe_lst (pa_cons pe_int (pa_cons (pe_op op_add pe_int (pe_cl D_L_next G_L_next hr (pa_cons (pv 1) (pa_cons pe_int pa_nil)))) pa_nil))) (pv 2) (fun _ _ => rfl)) pa_nil))))
      (pss_cons (ps_par (i := 4) (j := 5) rfl nd rfl rfl (by decide) rfl rfl (pa_cons (pe_cl D_nested_below G_nested_below hr (pa_cons (pv 3) pa_nil)) (pa_cons (pe_cl D_least_tree G_least10 hr (pa_cons (pv 3) pa_nil)) pa_nil)) rfl)
      (pss_one (ps_for PassesOwn.never rfl (pi_list (pe_cl D_L_all_trees G_L_all_trees hr (pa_cons (pe_len B (pv 3)) pa_nil))) (pg_name (i := 6) nd rfl (.inl rfl))
      (pss_one (ps_if (pt_not (pt_val (pe_cl D_L_tree_right G_L_tree_right hr (pa_cons (pv 3) (pa_cons (pv 4) (pa_cons (pv 5) (pa_cons (pv 6) pa_nil)))))))
      (pss_one (ps_ret pe_bl))
      pss_nil)))))))
      (pss_cons (ps_for PassesOwn.never rfl (pi_range1 rfl B.range (pa_cons pe_int pa_nil)) (pg_name (i := 2) nd rfl (.inl rfl))
      (pss_cons (ps_set (i := 3) nd rfl (.inl rfl) (pe_cl D_L_table G_L_table hr (pa_cons (pv 1) (pa_cons (pe_cl D_L_count G_L_count hr (pa_cons (pv 1) (pa_cons (pe_ix ix_list (pe_lst (pa_cons pe_int (pa_cons pe_int (pa_cons pe_int pa_nil)))) (pv 2) (fun _ _ => rfl)) pa_nil))) pa_nil))))
      (pss_cons (ps_par (i := 4) (j := 5) rfl nd rfl rfl (by decide) rfl rfl (pa_cons (pe_cl D_nested_below G_nested_below hr (pa_cons (pv 3) pa_nil)) (pa_cons (pe_cl D_least_tree G_least10 hr (pa_cons (pv 3) pa_nil)) pa_nil)) rfl)
      (pss_cons (ps_for PassesOwn.never rfl (pi_list (pe_lst (pa_cons (pe_cl D_L_lowest_tree G_L_lowest_tree hr (pa_cons (pv 1) (pa_cons (pv 3) pa_nil))) (pa_cons (pe_cl D_L_some_tree G_L_some_tree hr (pa_cons (pv 1) (pa_cons (pe_len B (pv 3)) pa_nil))) pa_nil)))) (pg_name (i := 6) nd rfl (.inl rfl))
      (pss_one (ps_if (pt_not (pt_val (pe_cl D_L_tree_right G_L_tree_right hr (pa_cons (pv 3) (pa_cons (pv 4) (pa_cons (pv 5) (pa_cons (pv 6) pa_nil)))))))
      (pss_one (ps_ret pe_bl))
      pss_nil)))
      (pss_one (ps_if (pt_not (pt_val (pe_cl D_L_led_right G_L_led_right hr (pa_cons (pv 3) (pa_cons (pv 4) (pa_cons (pv 5) (pa_cons (pe_cl D_L_some_tree G_L_some_tree hr (pa_cons (pv 1) (pa_cons (pe_len B (pv 3)) pa_nil))) pa_nil)))))))
      (pss_one (ps_ret pe_bl))
      pss_nil))))))
      (pss_one (ps_ret pe_bl))))), ?_⟩
    refine ⟨.ref a, rfl, a, ns0, rfl, hS, h63, fun H1 d c r s1 Dr1 _ _ _ => ?_⟩
    refine nx_mk ?_
    refine ⟨2, rfl, by decide, by decide, for_range (n := 2) (fun i σ Hx => ∃ x2 x3 x4 x5 x6, σ = [some (.ref a), some (.ref d), x2, x3, x4, x5, x6] ∧ Dr Hx d c r (2000 * i)) ⟨none, none, none, none, none, rfl, Dr1⟩ (fun i σ Hx hi hI => ?_) (fun σ Hx hI => ?_)⟩
    · obtain ⟨x2, x3, x4, x5, x6, rfl, hD⟩ := hI
      rw [Int.zero_add]
      show _
      refine ⟨.ref d, rfl, .ref d, rfl, d, c, r, _, 4, rfl, hD, by omega, by decide, by decide, fun H2 k2 l2 D2 kp2 => ?_⟩
      refine ⟨_, _, rfl, rfl, small1000 (Nat.le_of_ble_eq_true rfl), fun lp hlp => ?_⟩
      have s3 : Sm H2 (upd H2 lp (.lst [.int 4, .int (1 + (k2 : Int))])) := Sm.new hlp
      have hlp3 : (upd H2 lp (.lst [.int 4, .int (1 + (k2 : Int))])) lp = some (.lst [.int 4, .int (1 + (k2 : Int))]) := upd_same
      have D3 := D2.same s3
      generalize upd H2 lp (.lst [.int 4, .int (1 + (k2 : Int))]) = H3 at s3 hlp3 D3
      obtain ⟨cnt, c1, c2, hat⟩ : ∃ cnt : Nat, 1 ≤ cnt ∧ cnt < 6 ∧ [V.int 4, .int (1 + (k2 : Int))][i]? = some (.int (cnt : Int)) := by
        match i, hi with
        | 0, _ => exact ⟨4, by decide, by decide, rfl⟩
        | 1, _ => exact ⟨1 + k2, by omega, by omega, by simp⟩
        | i + 2, hi => omega
      refine ⟨.int (i : Int), rfl, lp, _, _, _, rfl, rfl, SqL.of hlp3, atI_nat hat, d, c, r, _, cnt, rfl, D3, by omega, by omega, by omega, fun H4 tv t hT4 hW htl D4 kp4 => ?_⟩
      obtain ⟨tp, rs, rfl, htp, hR⟩ := id hT4
      have hrl : rs.length = t.length := hR.1
      refine nx_mk ?_
      refine ⟨.ref tp, rfl, .ref tp, t, rfl, hT4, hW, by omega, fun H5 jv s5 hJ => ?_⟩
      refine ⟨.ref tp, rfl, .ref tp, t, rfl, hT4.same s5, hW, by omega, by omega, fun H6 pf wf Fs hK s6 hpf hwf => ?_⟩
      refine ⟨_, _, rfl, ?_⟩
      refine nx_mk ?_
      have s46 := s5.trans s6
      refine ⟨.ref tp, rfl, tp, rs, rfl, .inr (s46.sqT htp), t.length, by rw [hrl]; rfl, by omega, by omega, fun H7 pl vs s7 hpl hTr => ?_⟩
      have s47 := s46.trans s7
      refine ⟨pl, rfl, ⟨_, SqL.of hpl⟩, for_list (xs := vs) (fun j σ Hy => ∃ x6, σ = [some (.ref a), some (.ref d), some (.int (i : Int)), some (.ref tp), some jv, some (.ref pf), x6] ∧ Sm H7 Hy) ⟨_, rfl, Sm.refl _⟩ (fun j σ Hy _ hI => ?_) (fun j v σ Hy hv hI => ?_) (fun σ Hy hI => ?_)⟩
      · obtain ⟨_, _, sy⟩ := hI
        exact SqL.of (sy _ _ hpl)
      · obtain ⟨x6', rfl, sy⟩ := hI
        obtain ⟨row, hrow, ra, ws, rfl, hra, hws⟩ := Als.at hTr hv
        have hSp := (mem_spanR (show 1 ≤ t.length by omega)).mp (List.mem_of_getElem? hrow)
        have sy4 := s47.trans sy
        show _
        refine ⟨.ref tp, rfl, jv, rfl, .ref pf, rfl, .ref ra, rfl, tp, pf, ra, jv, t, wf, ws, Fs, row, rfl, hT4.same sy4, hW, by omega, by omega, hJ.same ((s6.trans s7).trans sy), (s7.trans sy).sqT hpf, hwf.same (s7.trans sy), hK.least, sy.sqT hra, hws.same sy, hSp, fun H8 s8 => ⟨_, rfl, ?_⟩⟩
        show _
        exact ⟨_, rfl, sy.trans s8⟩
      · obtain ⟨x6', rfl, sy⟩ := hI
        exact ⟨_, _, _, _, _, rfl, (D4.same (s47.trans sy)).mono (by omega)⟩
    obtain ⟨x2, x3, x4, x5, x6, rfl, hD2⟩ := hI
    show _
    refine ⟨3, rfl, by decide, by decide, for_range (n := 3) (fun i σ Hx => ∃ x2 x3 x4 x5 x6, σ = [some (.ref a), some (.ref d), x2, x3, x4, x5, x6] ∧ Dr Hx d c r (4000 + 2000 * i)) ⟨_, _, _, _, _, rfl, hD2.mono (by omega)⟩ (fun i σ Hx hi hI => ?_) (fun σ Hx hI => ?_)⟩
    rotate_left
    · exact q _
    obtain ⟨y2, y3, y4, y5, y6, rfl, hD⟩ := hI
    rw [Int.zero_add]
    show _
    refine ⟨.ref d, rfl, .ref d, rfl, small1000 (Nat.le_of_ble_eq_true rfl), fun lp hlp => ?_⟩
    have s3 : Sm Hx (upd Hx lp (.lst [.int 12, .int 7, .int 12])) := Sm.new hlp
    have hlp3 : (upd Hx lp (.lst [.int 12, .int 7, .int 12])) lp = some (.lst [.int 12, .int 7, .int 12]) := upd_same
    have D3 := hD.same s3
    generalize upd Hx lp (.lst [.int 12, .int 7, .int 12]) = H3 at s3 hlp3 D3
    obtain ⟨mx, c1, c2, hat⟩ : ∃ mx : Nat, 1 ≤ mx ∧ mx ≤ 12 ∧ [V.int 12, .int 7, .int 12][i]? = some (.int (mx : Int)) := by
      match i, hi with
      | 0, _ => exact ⟨12, by decide, by decide, rfl⟩
      | 1, _ => exact ⟨7, by decide, by decide, rfl⟩
      | 2, _ => exact ⟨12, by decide, by decide, rfl⟩
      | i + 3, hi => omega
    refine ⟨.int (i : Int), rfl, lp, _, _, _, rfl, rfl, SqL.of hlp3, atI_nat hat, d, c, r, _, (mx : Int), rfl, D3, by omega, by omega, by omega, fun H4 cnt l4 m4 D4 kp4 => ?_⟩
    refine ⟨d, c, r, _, cnt, rfl, D4, by omega, by omega, by omega, fun H5 tv t hT5 hW htl D5 kp5 => ?_⟩
    obtain ⟨tp, rs, rfl, htp, hR⟩ := id hT5
    have hrl : rs.length = t.length := hR.1
    refine nx_mk ?_
    refine ⟨.ref tp, rfl, .ref tp, t, rfl, hT5, hW, by omega, fun H6 jv s6 hJ => ?_⟩
    refine ⟨.ref tp, rfl, .ref tp, t, rfl, hT5.same s6, hW, by omega, by omega, fun H7 pf wf Fs hK s7 hpf hwf => ?_⟩
    refine ⟨_, _, rfl, ?_⟩
    refine nx_mk ?_
    have s57 := s6.trans s7
    have D7 := D5.same s57
    have hT7 := hT5.same s57
    have hJ7 := hJ.same s7
    refine ⟨.ref d, rfl, .ref tp, rfl, d, c, r, _, .ref tp, t, rfl, D7, by omega, hT7, hW, by omega, by omega, fun H8 p1 w1 T1 hS1 hp1 hw1 D8 kp8 => ?_⟩
    refine ⟨.ref d, rfl, .ref tp, rfl, tp, rs, rfl, .inr (D7.kpT kp8 (s57.sqT htp)), d, c, r, _, rs.length, rfl, D8, by omega, by omega, by omega, fun H9 p2 w2 T2 hS2 hp2 hw2 D9 kp9 => ?_⟩
    rw [hrl] at hS2
    have kp79 := kp8.trans kp9
    refine ⟨small1000 (Nat.le_of_ble_eq_true rfl), fun l0 hl0 => ?_⟩
    have sa : Sm H9 (upd H9 l0 (.lst [.ref p1, .ref p2])) := Sm.new hl0
    have hl00 : (upd H9 l0 (.lst [.ref p1, .ref p2])) l0 = some (.lst [.ref p1, .ref p2]) := upd_same
    generalize upd H9 l0 (.lst [.ref p1, .ref p2]) = Ha at sa hl00
    have Da' := D9.same sa
    have hTa := (hT7.kp D7 kp79).same sa
    have hJa := (hJ7.kp D7 kp79).same sa
    have hpfa := sa.sqT (D7.kpT kp79 hpf)
    have hwfa := (hwf.kp D7 kp79).same sa
    have both : ∀ (j : Nat) v, [V.ref p1, V.ref p2][j]? = some v → ∃ p ws Tr, v = .ref p ∧ SqT K Ha p ws ∧ Prs K Ha ws Tr ∧ Span t.length Tr := fun j v hv => by
      match j, hv with
      | 0, hv =>
        cases Option.some.inj hv
        exact ⟨p1, w1, T1, rfl, sa.sqT (D8.kpT kp9 hp1), (hw1.kp D8 kp9).same sa, hS1⟩
      | 1, hv =>
        cases Option.some.inj hv
        exact ⟨p2, w2, T2, rfl, sa.sqT hp2, hw2.same sa, hS2⟩
      | j + 2, hv => simp at hv
    refine ⟨l0, rfl, ⟨_, SqL.of hl00⟩, for_list (xs := [.ref p1, .ref p2]) (fun j σ Hy => ∃ x6, σ = [some (.ref a), some (.ref d), some (.int (i : Int)), some (.ref tp), some jv, some (.ref pf), x6] ∧ Sm Ha Hy) ⟨_, rfl, Sm.refl _⟩ (fun j σ Hy _ hI => ?_) (fun j v σ Hy hv hI => ?_) (fun σ Hy hI => ?_)⟩
    · obtain ⟨_, _, sy⟩ := hI
      exact SqL.of (sy _ _ hl00)
    · obtain ⟨x6', rfl, sy⟩ := hI
      obtain ⟨p, ws, Tr, rfl, hp, hws, hSp⟩ := both j v hv
      show _
      refine ⟨.ref tp, rfl, jv, rfl, .ref pf, rfl, .ref p, rfl, tp, pf, p, jv, t, wf, ws, Fs, Tr, rfl, hTa.same sy, hW, by omega, by omega, hJa.same sy, sy.sqT hpfa, hwfa.same sy, hK.least, sy.sqT hp, hws.same sy, hSp, fun Hb sb => ⟨_, rfl, ?_⟩⟩
      show _
      exact ⟨_, rfl, sy.trans sb⟩
    · obtain ⟨x6', rfl, sy⟩ := hI
      have Dy := Da'.same sy
      have hTy := hTa.same sy
      obtain ⟨tp', rs', ez, htp', hR'⟩ := id hTy
      cases ez
      have hrl' : rs'.length = t.length := hR'.1
      show _
      refine ⟨.ref tp, rfl, jv, rfl, .ref pf, rfl, .ref d, rfl, .ref tp, rfl, tp, rs', rfl, .inr htp', d, c, r, _, rs'.length, rfl, Dy, by omega, by omega, by omega, fun Hb p3 w3 T3 hS3 hp3 hw3 Db kb => ?_⟩
      rw [hrl'] at hS3
      refine ⟨tp, pf, p3, jv, t, wf, w3, Fs, T3, rfl, hTy.kp Dy kb, hW, by omega, by omega, (hJa.same sy).kp Dy kb, Dy.kpT kb (sy.sqT hpfa), (hwfa.same sy).kp Dy kb, hK.least, hp3, hw3, hS3, fun Hc sc => ⟨_, rfl, ?_⟩⟩
      show _
      exact ⟨_, _, _, _, _, rfl, (Db.same sc).mono (by omega)⟩
end
/-! ### what the top has written -/
theorem df_mk {K : PySem.W.Frag} {h : Heap} {mg : Str → Option Value} {x : Str} {st : Stmt} {f : Addr} {od an : Option Addr} {sl : Array (Option Value)} {oc kV dc pm cd ct : Value} {ps : List Str} (X : K.In h) (G : h.Ns mainGlobals mg)
    (a : PySem.W.nsIn K mainGlobals x = some (some (.ref f))) (l : K.lookup f = some ⟨oc, od, .func (PySem.W.fnOf x x (defArgs st) (defBody st) (defScope st) .none kV dc pm an cd ct), sl⟩) (c : PySem.W.codeIn K cd x = true) (k : PySem.W.keepIn K (.ref f) = true)
    (b : ∀ (kV doc pm : Value) (an : Option Addr) (cdv ct : Value) (us : List Value), us.length = ps.length → bindArgs (PySem.W.fnOf x x (defArgs st) (defBody st) (defScope st) .none kV doc pm an cdv ct) ⟨us, []⟩ = pure (ps.zip us)) :
    Df K mg x st f (PySem.W.fnOf x x (defArgs st) (defBody st) (defScope st) .none kV dc pm an cd ct) ps := ⟨fun_mk l c k, (fun_mk l c k).binds b, PySem.W.mg_of X G a⟩
theorem all_mk {l : PySem.W.OpenLaw} {w : World} {K : PySem.W.Frag} {h : Heap} {mg : Str → Option Value} {fa : Addr} (X : K.In h) (G : h.Ns mainGlobals mg) (hfa : mg "law" = some (.ref fa))
    {f1 : Addr} {od1 an1 : Option Addr} {sl1 : Array (Option Value)} {oc1 kV1 dc1 pm1 cd1 ct1 : Value} (a1 : PySem.W.nsIn K mainGlobals "is_whole" = some (some (.ref f1))) (l1 : K.lookup f1 = some ⟨oc1, od1, .func (PySem.W.fnOf "is_whole" "is_whole" (defArgs s_is_whole) (defBody s_is_whole) (defScope s_is_whole) .none kV1 dc1 pm1 an1 cd1 ct1), sl1⟩) (c1 : PySem.W.codeIn K cd1 "is_whole" = true) (k1 : PySem.W.keepIn K (.ref f1) = true)
    {f2 : Addr} {od2 an2 : Option Addr} {sl2 : Array (Option Value)} {oc2 kV2 dc2 pm2 cd2 ct2 : Value} (a2 : PySem.W.nsIn K mainGlobals "is_item" = some (some (.ref f2))) (l2 : K.lookup f2 = some ⟨oc2, od2, .func (PySem.W.fnOf "is_item" "is_item" (defArgs s_is_item) (defBody s_is_item) (defScope s_is_item) .none kV2 dc2 pm2 an2 cd2 ct2), sl2⟩) (c2 : PySem.W.codeIn K cd2 "is_item" = true) (k2 : PySem.W.keepIn K (.ref f2) = true)
    {f3 : Addr} {od3 an3 : Option Addr} {sl3 : Array (Option Value)} {oc3 kV3 dc3 pm3 cd3 ct3 : Value} (a3 : PySem.W.nsIn K mainGlobals "is_pair" = some (some (.ref f3))) (l3 : K.lookup f3 = some ⟨oc3, od3, .func (PySem.W.fnOf "is_pair" "is_pair" (defArgs s_is_pair) (defBody s_is_pair) (defScope s_is_pair) .none kV3 dc3 pm3 an3 cd3 ct3), sl3⟩) (c3 : PySem.W.codeIn K cd3 "is_pair" = true) (k3 : PySem.W.keepIn K (.ref f3) = true)
    {f4 : Addr} {od4 an4 : Option Addr} {sl4 : Array (Option Value)} {oc4 kV4 dc4 pm4 cd4 ct4 : Value} (a4 : PySem.W.nsIn K mainGlobals "level_between" = some (some (.ref f4))) (l4 : K.lookup f4 = some ⟨oc4, od4, .func (PySem.W.fnOf "level_between" "level_between" (defArgs s_level_between) (defBody s_level_between) (defScope s_level_between) .none kV4 dc4 pm4 an4 cd4 ct4), sl4⟩) (c4 : PySem.W.codeIn K cd4 "level_between" = true) (k4 : PySem.W.keepIn K (.ref f4) = true)
    {f5 : Addr} {od5 an5 : Option Addr} {sl5 : Array (Option Value)} {oc5 kV5 dc5 pm5 cd5 ct5 : Value} (a5 : PySem.W.nsIn K mainGlobals "pairs_of" = some (some (.ref f5))) (l5 : K.lookup f5 = some ⟨oc5, od5, .func (PySem.W.fnOf "pairs_of" "pairs_of" (defArgs s_pairs_of) (defBody s_pairs_of) (defScope s_pairs_of) .none kV5 dc5 pm5 an5 cd5 ct5), sl5⟩) (c5 : PySem.W.codeIn K cd5 "pairs_of" = true) (k5 : PySem.W.keepIn K (.ref f5) = true)
    {f6 : Addr} {od6 an6 : Option Addr} {sl6 : Array (Option Value)} {oc6 kV6 dc6 pm6 cd6 ct6 : Value} (a6 : PySem.W.nsIn K mainGlobals "is_even" = some (some (.ref f6))) (l6 : K.lookup f6 = some ⟨oc6, od6, .func (PySem.W.fnOf "is_even" "is_even" (defArgs s_is_even) (defBody s_is_even) (defScope s_is_even) .none kV6 dc6 pm6 an6 cd6 ct6), sl6⟩) (c6 : PySem.W.codeIn K cd6 "is_even" = true) (k6 : PySem.W.keepIn K (.ref f6) = true)
    {f7 : Addr} {od7 an7 : Option Addr} {sl7 : Array (Option Value)} {oc7 kV7 dc7 pm7 cd7 ct7 : Value} (a7 : PySem.W.nsIn K mainGlobals "uneven_items" = some (some (.ref f7))) (l7 : K.lookup f7 = some ⟨oc7, od7, .func (PySem.W.fnOf "uneven_items" "uneven_items" (defArgs s_uneven_items) (defBody s_uneven_items) (defScope s_uneven_items) .none kV7 dc7 pm7 an7 cd7 ct7), sl7⟩) (c7 : PySem.W.codeIn K cd7 "uneven_items" = true) (k7 : PySem.W.keepIn K (.ref f7) = true)
    {f8 : Addr} {od8 an8 : Option Addr} {sl8 : Array (Option Value)} {oc8 kV8 dc8 pm8 cd8 ct8 : Value} (a8 : PySem.W.nsIn K mainGlobals "is_nested" = some (some (.ref f8))) (l8 : K.lookup f8 = some ⟨oc8, od8, .func (PySem.W.fnOf "is_nested" "is_nested" (defArgs s_is_nested) (defBody s_is_nested) (defScope s_is_nested) .none kV8 dc8 pm8 an8 cd8 ct8), sl8⟩) (c8 : PySem.W.codeIn K cd8 "is_nested" = true) (k8 : PySem.W.keepIn K (.ref f8) = true)
    {f9 : Addr} {od9 an9 : Option Addr} {sl9 : Array (Option Value)} {oc9 kV9 dc9 pm9 cd9 ct9 : Value} (a9 : PySem.W.nsIn K mainGlobals "level_grid" = some (some (.ref f9))) (l9 : K.lookup f9 = some ⟨oc9, od9, .func (PySem.W.fnOf "level_grid" "level_grid" (defArgs s_level_grid) (defBody s_level_grid) (defScope s_level_grid) .none kV9 dc9 pm9 an9 cd9 ct9), sl9⟩) (c9 : PySem.W.codeIn K cd9 "level_grid" = true) (k9 : PySem.W.keepIn K (.ref f9) = true)
    {f10 : Addr} {od10 an10 : Option Addr} {sl10 : Array (Option Value)} {oc10 kV10 dc10 pm10 cd10 ct10 : Value} (a10 : PySem.W.nsIn K mainGlobals "lowest_grid" = some (some (.ref f10))) (l10 : K.lookup f10 = some ⟨oc10, od10, .func (PySem.W.fnOf "lowest_grid" "lowest_grid" (defArgs s_lowest_grid) (defBody s_lowest_grid) (defScope s_lowest_grid) .none kV10 dc10 pm10 an10 cd10 ct10), sl10⟩) (c10 : PySem.W.codeIn K cd10 "lowest_grid" = true) (k10 : PySem.W.keepIn K (.ref f10) = true)
    {f11 : Addr} {od11 an11 : Option Addr} {sl11 : Array (Option Value)} {oc11 kV11 dc11 pm11 cd11 ct11 : Value} (a11 : PySem.W.nsIn K mainGlobals "join_grid" = some (some (.ref f11))) (l11 : K.lookup f11 = some ⟨oc11, od11, .func (PySem.W.fnOf "join_grid" "join_grid" (defArgs s_join_grid) (defBody s_join_grid) (defScope s_join_grid) .none kV11 dc11 pm11 an11 cd11 ct11), sl11⟩) (c11 : PySem.W.codeIn K cd11 "join_grid" = true) (k11 : PySem.W.keepIn K (.ref f11) = true)
    {f12 : Addr} {od12 an12 : Option Addr} {sl12 : Array (Option Value)} {oc12 kV12 dc12 pm12 cd12 ct12 : Value} (a12 : PySem.W.nsIn K mainGlobals "nested_below" = some (some (.ref f12))) (l12 : K.lookup f12 = some ⟨oc12, od12, .func (PySem.W.fnOf "nested_below" "nested_below" (defArgs s_nested_below) (defBody s_nested_below) (defScope s_nested_below) .none kV12 dc12 pm12 an12 cd12 ct12), sl12⟩) (c12 : PySem.W.codeIn K cd12 "nested_below" = true) (k12 : PySem.W.keepIn K (.ref f12) = true)
    {f13 : Addr} {od13 an13 : Option Addr} {sl13 : Array (Option Value)} {oc13 kV13 dc13 pm13 cd13 ct13 : Value} (a13 : PySem.W.nsIn K mainGlobals "own_sets" = some (some (.ref f13))) (l13 : K.lookup f13 = some ⟨oc13, od13, .func (PySem.W.fnOf "own_sets" "own_sets" (defArgs s_own_sets) (defBody s_own_sets) (defScope s_own_sets) .none kV13 dc13 pm13 an13 cd13 ct13), sl13⟩) (c13 : PySem.W.codeIn K cd13 "own_sets" = true) (k13 : PySem.W.keepIn K (.ref f13) = true)
    {f14 : Addr} {od14 an14 : Option Addr} {sl14 : Array (Option Value)} {oc14 kV14 dc14 pm14 cd14 ct14 : Value} (a14 : PySem.W.nsIn K mainGlobals "united" = some (some (.ref f14))) (l14 : K.lookup f14 = some ⟨oc14, od14, .func (PySem.W.fnOf "united" "united" (defArgs s_united) (defBody s_united) (defScope s_united) .none kV14 dc14 pm14 an14 cd14 ct14), sl14⟩) (c14 : PySem.W.codeIn K cd14 "united" = true) (k14 : PySem.W.keepIn K (.ref f14) = true)
    {f15 : Addr} {od15 an15 : Option Addr} {sl15 : Array (Option Value)} {oc15 kV15 dc15 pm15 cd15 ct15 : Value} (a15 : PySem.W.nsIn K mainGlobals "connects_all" = some (some (.ref f15))) (l15 : K.lookup f15 = some ⟨oc15, od15, .func (PySem.W.fnOf "connects_all" "connects_all" (defArgs s_connects_all) (defBody s_connects_all) (defScope s_connects_all) .none kV15 dc15 pm15 an15 cd15 ct15), sl15⟩) (c15 : PySem.W.codeIn K cd15 "connects_all" = true) (k15 : PySem.W.keepIn K (.ref f15) = true)
    {f16 : Addr} {od16 an16 : Option Addr} {sl16 : Array (Option Value)} {oc16 kV16 dc16 pm16 cd16 ct16 : Value} (a16 : PySem.W.nsIn K mainGlobals "is_spanning" = some (some (.ref f16))) (l16 : K.lookup f16 = some ⟨oc16, od16, .func (PySem.W.fnOf "is_spanning" "is_spanning" (defArgs s_is_spanning) (defBody s_is_spanning) (defScope s_is_spanning) .none kV16 dc16 pm16 an16 cd16 ct16), sl16⟩) (c16 : PySem.W.codeIn K cd16 "is_spanning" = true) (k16 : PySem.W.keepIn K (.ref f16) = true)
    {f17 : Addr} {od17 an17 : Option Addr} {sl17 : Array (Option Value)} {oc17 kV17 dc17 pm17 cd17 ct17 : Value} (a17 : PySem.W.nsIn K mainGlobals "sum_of" = some (some (.ref f17))) (l17 : K.lookup f17 = some ⟨oc17, od17, .func (PySem.W.fnOf "sum_of" "sum_of" (defArgs s_sum_of) (defBody s_sum_of) (defScope s_sum_of) .none kV17 dc17 pm17 an17 cd17 ct17), sl17⟩) (c17 : PySem.W.codeIn K cd17 "sum_of" = true) (k17 : PySem.W.keepIn K (.ref f17) = true)
    {f18 : Addr} {od18 an18 : Option Addr} {sl18 : Array (Option Value)} {oc18 kV18 dc18 pm18 cd18 ct18 : Value} (a18 : PySem.W.nsIn K mainGlobals "least_tree" = some (some (.ref f18))) (l18 : K.lookup f18 = some ⟨oc18, od18, .func (PySem.W.fnOf "least_tree" "least_tree" (defArgs s_least_tree) (defBody s_least_tree) (defScope s_least_tree) .none kV18 dc18 pm18 an18 cd18 ct18), sl18⟩) (c18 : PySem.W.codeIn K cd18 "least_tree" = true) (k18 : PySem.W.keepIn K (.ref f18) = true)
    {f19 : Addr} {od19 an19 : Option Addr} {sl19 : Array (Option Value)} {oc19 kV19 dc19 pm19 cd19 ct19 : Value} (a19 : PySem.W.nsIn K mainGlobals "is_least_tree" = some (some (.ref f19))) (l19 : K.lookup f19 = some ⟨oc19, od19, .func (PySem.W.fnOf "is_least_tree" "is_least_tree" (defArgs s_is_least_tree) (defBody s_is_least_tree) (defScope s_is_least_tree) .none kV19 dc19 pm19 an19 cd19 ct19), sl19⟩) (c19 : PySem.W.codeIn K cd19 "is_least_tree" = true) (k19 : PySem.W.keepIn K (.ref f19) = true)
    {f20 : Addr} {od20 an20 : Option Addr} {sl20 : Array (Option Value)} {oc20 kV20 dc20 pm20 cd20 ct20 : Value} (a20 : PySem.W.nsIn K mainGlobals "tree_levels" = some (some (.ref f20))) (l20 : K.lookup f20 = some ⟨oc20, od20, .func (PySem.W.fnOf "tree_levels" "tree_levels" (defArgs s_tree_levels) (defBody s_tree_levels) (defScope s_tree_levels) .none kV20 dc20 pm20 an20 cd20 ct20), sl20⟩) (c20 : PySem.W.codeIn K cd20 "tree_levels" = true) (k20 : PySem.W.keepIn K (.ref f20) = true)
    {f21 : Addr} {od21 an21 : Option Addr} {sl21 : Array (Option Value)} {oc21 kV21 dc21 pm21 cd21 ct21 : Value} (a21 : PySem.W.nsIn K mainGlobals "_law_draws" = some (some (.ref f21))) (l21 : K.lookup f21 = some ⟨oc21, od21, .func (PySem.W.fnOf "_law_draws" "_law_draws" (defArgs s_L_draws) (defBody s_L_draws) (defScope s_L_draws) .none kV21 dc21 pm21 an21 cd21 ct21), sl21⟩) (c21 : PySem.W.codeIn K cd21 "_law_draws" = true) (k21 : PySem.W.keepIn K (.ref f21) = true)
    {f22 : Addr} {od22 an22 : Option Addr} {sl22 : Array (Option Value)} {oc22 kV22 dc22 pm22 cd22 ct22 : Value} (a22 : PySem.W.nsIn K mainGlobals "_law_next" = some (some (.ref f22))) (l22 : K.lookup f22 = some ⟨oc22, od22, .func (PySem.W.fnOf "_law_next" "_law_next" (defArgs s_L_next) (defBody s_L_next) (defScope s_L_next) .none kV22 dc22 pm22 an22 cd22 ct22), sl22⟩) (c22 : PySem.W.codeIn K cd22 "_law_next" = true) (k22 : PySem.W.keepIn K (.ref f22) = true)
    {f23 : Addr} {od23 an23 : Option Addr} {sl23 : Array (Option Value)} {oc23 kV23 dc23 pm23 cd23 ct23 : Value} (a23 : PySem.W.nsIn K mainGlobals "_law_one" = some (some (.ref f23))) (l23 : K.lookup f23 = some ⟨oc23, od23, .func (PySem.W.fnOf "_law_one" "_law_one" (defArgs s_L_one) (defBody s_L_one) (defScope s_L_one) .none kV23 dc23 pm23 an23 cd23 ct23), sl23⟩) (c23 : PySem.W.codeIn K cd23 "_law_one" = true) (k23 : PySem.W.keepIn K (.ref f23) = true)
    {f24 : Addr} {od24 an24 : Option Addr} {sl24 : Array (Option Value)} {oc24 kV24 dc24 pm24 cd24 ct24 : Value} (a24 : PySem.W.nsIn K mainGlobals "_law_equal" = some (some (.ref f24))) (l24 : K.lookup f24 = some ⟨oc24, od24, .func (PySem.W.fnOf "_law_equal" "_law_equal" (defArgs s_L_equal) (defBody s_L_equal) (defScope s_L_equal) .none kV24 dc24 pm24 an24 cd24 ct24), sl24⟩) (c24 : PySem.W.codeIn K cd24 "_law_equal" = true) (k24 : PySem.W.keepIn K (.ref f24) = true)
    {f25 : Addr} {od25 an25 : Option Addr} {sl25 : Array (Option Value)} {oc25 kV25 dc25 pm25 cd25 ct25 : Value} (a25 : PySem.W.nsIn K mainGlobals "_law_count" = some (some (.ref f25))) (l25 : K.lookup f25 = some ⟨oc25, od25, .func (PySem.W.fnOf "_law_count" "_law_count" (defArgs s_L_count) (defBody s_L_count) (defScope s_L_count) .none kV25 dc25 pm25 an25 cd25 ct25), sl25⟩) (c25 : PySem.W.codeIn K cd25 "_law_count" = true) (k25 : PySem.W.keepIn K (.ref f25) = true)
    {f26 : Addr} {od26 an26 : Option Addr} {sl26 : Array (Option Value)} {oc26 kV26 dc26 pm26 cd26 ct26 : Value} (a26 : PySem.W.nsIn K mainGlobals "_law_grades" = some (some (.ref f26))) (l26 : K.lookup f26 = some ⟨oc26, od26, .func (PySem.W.fnOf "_law_grades" "_law_grades" (defArgs s_L_grades) (defBody s_L_grades) (defScope s_L_grades) .none kV26 dc26 pm26 an26 cd26 ct26), sl26⟩) (c26 : PySem.W.codeIn K cd26 "_law_grades" = true) (k26 : PySem.W.keepIn K (.ref f26) = true)
    {f27 : Addr} {od27 an27 : Option Addr} {sl27 : Array (Option Value)} {oc27 kV27 dc27 pm27 cd27 ct27 : Value} (a27 : PySem.W.nsIn K mainGlobals "_law_level" = some (some (.ref f27))) (l27 : K.lookup f27 = some ⟨oc27, od27, .func (PySem.W.fnOf "_law_level" "_law_level" (defArgs s_L_level) (defBody s_L_level) (defScope s_L_level) .none kV27 dc27 pm27 an27 cd27 ct27), sl27⟩) (c27 : PySem.W.codeIn K cd27 "_law_level" = true) (k27 : PySem.W.keepIn K (.ref f27) = true)
    {f28 : Addr} {od28 an28 : Option Addr} {sl28 : Array (Option Value)} {oc28 kV28 dc28 pm28 cd28 ct28 : Value} (a28 : PySem.W.nsIn K mainGlobals "_law_nested" = some (some (.ref f28))) (l28 : K.lookup f28 = some ⟨oc28, od28, .func (PySem.W.fnOf "_law_nested" "_law_nested" (defArgs s_L_nested) (defBody s_L_nested) (defScope s_L_nested) .none kV28 dc28 pm28 an28 cd28 ct28), sl28⟩) (c28 : PySem.W.codeIn K cd28 "_law_nested" = true) (k28 : PySem.W.keepIn K (.ref f28) = true)
    {f29 : Addr} {od29 an29 : Option Addr} {sl29 : Array (Option Value)} {oc29 kV29 dc29 pm29 cd29 ct29 : Value} (a29 : PySem.W.nsIn K mainGlobals "_law_raised" = some (some (.ref f29))) (l29 : K.lookup f29 = some ⟨oc29, od29, .func (PySem.W.fnOf "_law_raised" "_law_raised" (defArgs s_L_raised) (defBody s_L_raised) (defScope s_L_raised) .none kV29 dc29 pm29 an29 cd29 ct29), sl29⟩) (c29 : PySem.W.codeIn K cd29 "_law_raised" = true) (k29 : PySem.W.keepIn K (.ref f29) = true)
    {f30 : Addr} {od30 an30 : Option Addr} {sl30 : Array (Option Value)} {oc30 kV30 dc30 pm30 cd30 ct30 : Value} (a30 : PySem.W.nsIn K mainGlobals "_law_levels" = some (some (.ref f30))) (l30 : K.lookup f30 = some ⟨oc30, od30, .func (PySem.W.fnOf "_law_levels" "_law_levels" (defArgs s_L_levels) (defBody s_L_levels) (defScope s_L_levels) .none kV30 dc30 pm30 an30 cd30 ct30), sl30⟩) (c30 : PySem.W.codeIn K cd30 "_law_levels" = true) (k30 : PySem.W.keepIn K (.ref f30) = true)
    {f31 : Addr} {od31 an31 : Option Addr} {sl31 : Array (Option Value)} {oc31 kV31 dc31 pm31 cd31 ct31 : Value} (a31 : PySem.W.nsIn K mainGlobals "_law_any" = some (some (.ref f31))) (l31 : K.lookup f31 = some ⟨oc31, od31, .func (PySem.W.fnOf "_law_any" "_law_any" (defArgs s_L_any) (defBody s_L_any) (defScope s_L_any) .none kV31 dc31 pm31 an31 cd31 ct31), sl31⟩) (c31 : PySem.W.codeIn K cd31 "_law_any" = true) (k31 : PySem.W.keepIn K (.ref f31) = true)
    {f32 : Addr} {od32 an32 : Option Addr} {sl32 : Array (Option Value)} {oc32 kV32 dc32 pm32 cd32 ct32 : Value} (a32 : PySem.W.nsIn K mainGlobals "_law_table" = some (some (.ref f32))) (l32 : K.lookup f32 = some ⟨oc32, od32, .func (PySem.W.fnOf "_law_table" "_law_table" (defArgs s_L_table) (defBody s_L_table) (defScope s_L_table) .none kV32 dc32 pm32 an32 cd32 ct32), sl32⟩) (c32 : PySem.W.codeIn K cd32 "_law_table" = true) (k32 : PySem.W.keepIn K (.ref f32) = true)
    {f33 : Addr} {od33 an33 : Option Addr} {sl33 : Array (Option Value)} {oc33 kV33 dc33 pm33 cd33 ct33 : Value} (a33 : PySem.W.nsIn K mainGlobals "_law_pairs" = some (some (.ref f33))) (l33 : K.lookup f33 = some ⟨oc33, od33, .func (PySem.W.fnOf "_law_pairs" "_law_pairs" (defArgs s_L_pairs) (defBody s_L_pairs) (defScope s_L_pairs) .none kV33 dc33 pm33 an33 cd33 ct33), sl33⟩) (c33 : PySem.W.codeIn K cd33 "_law_pairs" = true) (k33 : PySem.W.keepIn K (.ref f33) = true)
    {f34 : Addr} {od34 an34 : Option Addr} {sl34 : Array (Option Value)} {oc34 kV34 dc34 pm34 cd34 ct34 : Value} (a34 : PySem.W.nsIn K mainGlobals "_law_is_connected" = some (some (.ref f34))) (l34 : K.lookup f34 = some ⟨oc34, od34, .func (PySem.W.fnOf "_law_is_connected" "_law_is_connected" (defArgs s_L_is_connected) (defBody s_L_is_connected) (defScope s_L_is_connected) .none kV34 dc34 pm34 an34 cd34 ct34), sl34⟩) (c34 : PySem.W.codeIn K cd34 "_law_is_connected" = true) (k34 : PySem.W.keepIn K (.ref f34) = true)
    {f35 : Addr} {od35 an35 : Option Addr} {sl35 : Array (Option Value)} {oc35 kV35 dc35 pm35 cd35 ct35 : Value} (a35 : PySem.W.nsIn K mainGlobals "_law_sum" = some (some (.ref f35))) (l35 : K.lookup f35 = some ⟨oc35, od35, .func (PySem.W.fnOf "_law_sum" "_law_sum" (defArgs s_L_sum) (defBody s_L_sum) (defScope s_L_sum) .none kV35 dc35 pm35 an35 cd35 ct35), sl35⟩) (c35 : PySem.W.codeIn K cd35 "_law_sum" = true) (k35 : PySem.W.keepIn K (.ref f35) = true)
    {f36 : Addr} {od36 an36 : Option Addr} {sl36 : Array (Option Value)} {oc36 kV36 dc36 pm36 cd36 ct36 : Value} (a36 : PySem.W.nsIn K mainGlobals "_law_all_trees" = some (some (.ref f36))) (l36 : K.lookup f36 = some ⟨oc36, od36, .func (PySem.W.fnOf "_law_all_trees" "_law_all_trees" (defArgs s_L_all_trees) (defBody s_L_all_trees) (defScope s_L_all_trees) .none kV36 dc36 pm36 an36 cd36 ct36), sl36⟩) (c36 : PySem.W.codeIn K cd36 "_law_all_trees" = true) (k36 : PySem.W.keepIn K (.ref f36) = true)
    {f37 : Addr} {od37 an37 : Option Addr} {sl37 : Array (Option Value)} {oc37 kV37 dc37 pm37 cd37 ct37 : Value} (a37 : PySem.W.nsIn K mainGlobals "_law_shuffled" = some (some (.ref f37))) (l37 : K.lookup f37 = some ⟨oc37, od37, .func (PySem.W.fnOf "_law_shuffled" "_law_shuffled" (defArgs s_L_shuffled) (defBody s_L_shuffled) (defScope s_L_shuffled) .none kV37 dc37 pm37 an37 cd37 ct37), sl37⟩) (c37 : PySem.W.codeIn K cd37 "_law_shuffled" = true) (k37 : PySem.W.keepIn K (.ref f37) = true)
    {f38 : Addr} {od38 an38 : Option Addr} {sl38 : Array (Option Value)} {oc38 kV38 dc38 pm38 cd38 ct38 : Value} (a38 : PySem.W.nsIn K mainGlobals "_law_some_tree" = some (some (.ref f38))) (l38 : K.lookup f38 = some ⟨oc38, od38, .func (PySem.W.fnOf "_law_some_tree" "_law_some_tree" (defArgs s_L_some_tree) (defBody s_L_some_tree) (defScope s_L_some_tree) .none kV38 dc38 pm38 an38 cd38 ct38), sl38⟩) (c38 : PySem.W.codeIn K cd38 "_law_some_tree" = true) (k38 : PySem.W.keepIn K (.ref f38) = true)
    {f39 : Addr} {od39 an39 : Option Addr} {sl39 : Array (Option Value)} {oc39 kV39 dc39 pm39 cd39 ct39 : Value} (a39 : PySem.W.nsIn K mainGlobals "_law_lowest_tree" = some (some (.ref f39))) (l39 : K.lookup f39 = some ⟨oc39, od39, .func (PySem.W.fnOf "_law_lowest_tree" "_law_lowest_tree" (defArgs s_L_lowest_tree) (defBody s_L_lowest_tree) (defScope s_L_lowest_tree) .none kV39 dc39 pm39 an39 cd39 ct39), sl39⟩) (c39 : PySem.W.codeIn K cd39 "_law_lowest_tree" = true) (k39 : PySem.W.keepIn K (.ref f39) = true)
    {f40 : Addr} {od40 an40 : Option Addr} {sl40 : Array (Option Value)} {oc40 kV40 dc40 pm40 cd40 ct40 : Value} (a40 : PySem.W.nsIn K mainGlobals "_law_tree_right" = some (some (.ref f40))) (l40 : K.lookup f40 = some ⟨oc40, od40, .func (PySem.W.fnOf "_law_tree_right" "_law_tree_right" (defArgs s_L_tree_right) (defBody s_L_tree_right) (defScope s_L_tree_right) .none kV40 dc40 pm40 an40 cd40 ct40), sl40⟩) (c40 : PySem.W.codeIn K cd40 "_law_tree_right" = true) (k40 : PySem.W.keepIn K (.ref f40) = true)
    {f41 : Addr} {od41 an41 : Option Addr} {sl41 : Array (Option Value)} {oc41 kV41 dc41 pm41 cd41 ct41 : Value} (a41 : PySem.W.nsIn K mainGlobals "_law_exchanged" = some (some (.ref f41))) (l41 : K.lookup f41 = some ⟨oc41, od41, .func (PySem.W.fnOf "_law_exchanged" "_law_exchanged" (defArgs s_L_exchanged) (defBody s_L_exchanged) (defScope s_L_exchanged) .none kV41 dc41 pm41 an41 cd41 ct41), sl41⟩) (c41 : PySem.W.codeIn K cd41 "_law_exchanged" = true) (k41 : PySem.W.keepIn K (.ref f41) = true)
    {f42 : Addr} {od42 an42 : Option Addr} {sl42 : Array (Option Value)} {oc42 kV42 dc42 pm42 cd42 ct42 : Value} (a42 : PySem.W.nsIn K mainGlobals "_law_led_right" = some (some (.ref f42))) (l42 : K.lookup f42 = some ⟨oc42, od42, .func (PySem.W.fnOf "_law_led_right" "_law_led_right" (defArgs s_L_led_right) (defBody s_L_led_right) (defScope s_L_led_right) .none kV42 dc42 pm42 an42 cd42 ct42), sl42⟩) (c42 : PySem.W.codeIn K cd42 "_law_led_right" = true) (k42 : PySem.W.keepIn K (.ref f42) = true)
    {f43 : Addr} {od43 an43 : Option Addr} {sl43 : Array (Option Value)} {oc43 kV43 dc43 pm43 cd43 ct43 : Value} (a43 : PySem.W.nsIn K mainGlobals "law" = some (some (.ref f43))) (l43 : K.lookup f43 = some ⟨oc43, od43, .func (PySem.W.fnOf "law" "law" (defArgs s_law) (defBody s_law) (defScope s_law) .none kV43 dc43 pm43 an43 cd43 ct43), sl43⟩) (c43 : PySem.W.codeIn K cd43 "law" = true) (k43 : PySem.W.keepIn K (.ref f43) = true)
    {t_LEVEL : Tok} (n_LEVEL : PySem.W.nsIn K mainGlobals "LEVEL" = some (some (.int 1000000000000 t_LEVEL)))   (z1 : PySem.W.nsIn K mainGlobals "len" = some none) (z2 : PySem.W.nsIn K mainGlobals "list" = some none) (z3 : PySem.W.nsIn K mainGlobals "int" = some none) (z4 : PySem.W.nsIn K mainGlobals "range" = some none) (z5 : PySem.W.nsIn K mainGlobals "sorted" = some none) (z6 : PySem.W.nsIn K mainGlobals "set" = some none) (z7 : PySem.W.nsIn K mainGlobals "tuple" = some none) (z8 : PySem.W.nsIn K mainGlobals "min" = some none) (z9 : PySem.W.nsIn K mainGlobals "max" = some none) (z10 : PySem.W.nsIn K mainGlobals "isinstance" = some none) (z11 : PySem.W.nsIn K mainGlobals "bool" = some none) (z12 : PySem.W.nsIn K mainGlobals "str" = some none) (z13 : PySem.W.nsIn K mainGlobals "all" = some none) (z14 : PySem.W.nsIn K mainGlobals "zip" = some none) (z15 : PySem.W.nsIn K mainGlobals "repr" = some none) (z16 : PySem.W.nsIn K mainGlobals "enumerate" = some none) (z17 : PySem.W.nsIn K mainGlobals "abs" = some none) (z18 : PySem.W.nsIn K mainGlobals "sum" = some none) (z19 : PySem.W.nsIn K mainGlobals "dict" = some none) :
    ∃ fd : FuncData, (∀ (s : Shared) (v : Value), BindsTo s fd ⟨[v], []⟩ [("_law_script", v)]) ∧ ∀ base : Heap, K.In base → base.Ns mainGlobals mg → FnOk l.prog w K mg base CX0 11 fa fd ["_law_script"] (sp_law K) := by
  have e := hfa.symm.trans (PySem.W.mg_of X G a43)
  cases e
  have B : Bi mg := ⟨PySem.W.mg_none_of X G z1, PySem.W.mg_none_of X G z2, PySem.W.mg_none_of X G z3, PySem.W.mg_none_of X G z4, PySem.W.mg_none_of X G z5, PySem.W.mg_none_of X G z6, PySem.W.mg_none_of X G z7, PySem.W.mg_none_of X G z8, PySem.W.mg_none_of X G z9, PySem.W.mg_none_of X G z10, PySem.W.mg_none_of X G z11, PySem.W.mg_none_of X G z12, PySem.W.mg_none_of X G z13, PySem.W.mg_none_of X G z14, PySem.W.mg_none_of X G z15, PySem.W.mg_none_of X G z16, PySem.W.mg_none_of X G z17, PySem.W.mg_none_of X G z18, PySem.W.mg_none_of X G z19⟩
  have g_LEVEL : ∃ t, mg "LEVEL" = some (.int 1000000000000 t) := ⟨_, PySem.W.mg_of X G n_LEVEL⟩
  have d_is_whole := df_mk (st := s_is_whole) (ps := ["value"]) X G a1 l1 c1 k1 (fun _ _ _ _ _ _ us hl => match us, hl with | [_], _ => rfl)
  have d_is_item := df_mk (st := s_is_item) (ps := ["table", "value"]) X G a2 l2 c2 k2 (fun _ _ _ _ _ _ us hl => match us, hl with | [_, _], _ => rfl)
  have d_is_pair := df_mk (st := s_is_pair) (ps := ["table", "value"]) X G a3 l3 c3 k3 (fun _ _ _ _ _ _ us hl => match us, hl with | [_, _], _ => rfl)
  have d_level_between := df_mk (st := s_level_between) (ps := ["table", "one", "other"]) X G a4 l4 c4 k4 (fun _ _ _ _ _ _ us hl => match us, hl with | [_, _, _], _ => rfl)
  have d_pairs_of := df_mk (st := s_pairs_of) (ps := ["table"]) X G a5 l5 c5 k5 (fun _ _ _ _ _ _ us hl => match us, hl with | [_], _ => rfl)
  have d_is_even := df_mk (st := s_is_even) (ps := ["table", "one", "other", "third"]) X G a6 l6 c6 k6 (fun _ _ _ _ _ _ us hl => match us, hl with | [_, _, _, _], _ => rfl)
  have d_uneven_items := df_mk (st := s_uneven_items) (ps := ["table"]) X G a7 l7 c7 k7 (fun _ _ _ _ _ _ us hl => match us, hl with | [_], _ => rfl)
  have d_is_nested := df_mk (st := s_is_nested) (ps := ["table"]) X G a8 l8 c8 k8 (fun _ _ _ _ _ _ us hl => match us, hl with | [_], _ => rfl)
  have d_level_grid := df_mk (st := s_level_grid) (ps := ["table"]) X G a9 l9 c9 k9 (fun _ _ _ _ _ _ us hl => match us, hl with | [_], _ => rfl)
  have d_lowest_grid := df_mk (st := s_lowest_grid) (ps := ["grid"]) X G a10 l10 c10 k10 (fun _ _ _ _ _ _ us hl => match us, hl with | [_], _ => rfl)
  have d_join_grid := df_mk (st := s_join_grid) (ps := ["table"]) X G a11 l11 c11 k11 (fun _ _ _ _ _ _ us hl => match us, hl with | [_], _ => rfl)
  have d_nested_below := df_mk (st := s_nested_below) (ps := ["table"]) X G a12 l12 c12 k12 (fun _ _ _ _ _ _ us hl => match us, hl with | [_], _ => rfl)
  have d_own_sets := df_mk (st := s_own_sets) (ps := ["members"]) X G a13 l13 c13 k13 (fun _ _ _ _ _ _ us hl => match us, hl with | [_], _ => rfl)
  have d_united := df_mk (st := s_united) (ps := ["names", "one", "other"]) X G a14 l14 c14 k14 (fun _ _ _ _ _ _ us hl => match us, hl with | [_, _, _], _ => rfl)
  have d_connects_all := df_mk (st := s_connects_all) (ps := ["table", "pairs"]) X G a15 l15 c15 k15 (fun _ _ _ _ _ _ us hl => match us, hl with | [_, _], _ => rfl)
  have d_is_spanning := df_mk (st := s_is_spanning) (ps := ["table", "value"]) X G a16 l16 c16 k16 (fun _ _ _ _ _ _ us hl => match us, hl with | [_, _], _ => rfl)
  have d_sum_of := df_mk (st := s_sum_of) (ps := ["table", "tree"]) X G a17 l17 c17 k17 (fun _ _ _ _ _ _ us hl => match us, hl with | [_, _], _ => rfl)
  have d_least_tree := df_mk (st := s_least_tree) (ps := ["table"]) X G a18 l18 c18 k18 (fun _ _ _ _ _ _ us hl => match us, hl with | [_], _ => rfl)
  have d_is_least_tree := df_mk (st := s_is_least_tree) (ps := ["table", "value"]) X G a19 l19 c19 k19 (fun _ _ _ _ _ _ us hl => match us, hl with | [_, _], _ => rfl)
  have d_tree_levels := df_mk (st := s_tree_levels) (ps := ["table", "value"]) X G a20 l20 c20 k20 (fun _ _ _ _ _ _ us hl => match us, hl with | [_, _], _ => rfl)
  have d_L_draws := df_mk (st := s_L_draws) (ps := ["_law_script"]) X G a21 l21 c21 k21 (fun _ _ _ _ _ _ us hl => match us, hl with | [_], _ => rfl)
  have d_L_next := df_mk (st := s_L_next) (ps := ["_law_drawn", "_law_many"]) X G a22 l22 c22 k22 (fun _ _ _ _ _ _ us hl => match us, hl with | [_, _], _ => rfl)
  have d_L_one := df_mk (st := s_L_one) (ps := ["_law_drawn", "_law_items"]) X G a23 l23 c23 k23 (fun _ _ _ _ _ _ us hl => match us, hl with | [_, _], _ => rfl)
  have d_L_equal := df_mk (st := s_L_equal) (ps := ["_law_one_here", "_law_other"]) X G a24 l24 c24 k24 (fun _ _ _ _ _ _ us hl => match us, hl with | [_, _], _ => rfl)
  have d_L_count := df_mk (st := s_L_count) (ps := ["_law_drawn", "_law_most"]) X G a25 l25 c25 k25 (fun _ _ _ _ _ _ us hl => match us, hl with | [_, _], _ => rfl)
  have d_L_grades := df_mk (st := s_L_grades) (ps := ["_law_drawn"]) X G a26 l26 c26 k26 (fun _ _ _ _ _ _ us hl => match us, hl with | [_], _ => rfl)
  have d_L_level := df_mk (st := s_L_level) (ps := ["_law_table_here", "_law_one_here", "_law_other"]) X G a27 l27 c27 k27 (fun _ _ _ _ _ _ us hl => match us, hl with | [_, _, _], _ => rfl)
  have d_L_nested := df_mk (st := s_L_nested) (ps := ["_law_drawn", "_law_count_here", "_law_grades_here"]) X G a28 l28 c28 k28 (fun _ _ _ _ _ _ us hl => match us, hl with | [_, _, _], _ => rfl)
  have d_L_raised := df_mk (st := s_L_raised) (ps := ["_law_drawn", "_law_table_here", "_law_grades_here"]) X G a29 l29 c29 k29 (fun _ _ _ _ _ _ us hl => match us, hl with | [_, _, _], _ => rfl)
  have d_L_levels := df_mk (st := s_L_levels) (ps := ["_law_drawn", "_law_many", "_law_grades_here"]) X G a30 l30 c30 k30 (fun _ _ _ _ _ _ us hl => match us, hl with | [_, _, _], _ => rfl)
  have d_L_any := df_mk (st := s_L_any) (ps := ["_law_drawn", "_law_many", "_law_wide"]) X G a31 l31 c31 k31 (fun _ _ _ _ _ _ us hl => match us, hl with | [_, _, _], _ => rfl)
  have d_L_table := df_mk (st := s_L_table) (ps := ["_law_drawn", "_law_count_here"]) X G a32 l32 c32 k32 (fun _ _ _ _ _ _ us hl => match us, hl with | [_, _], _ => rfl)
  have d_L_pairs := df_mk (st := s_L_pairs) (ps := ["_law_count_here"]) X G a33 l33 c33 k33 (fun _ _ _ _ _ _ us hl => match us, hl with | [_], _ => rfl)
  have d_L_is_connected := df_mk (st := s_L_is_connected) (ps := ["_law_count_here", "_law_pairs_here"]) X G a34 l34 c34 k34 (fun _ _ _ _ _ _ us hl => match us, hl with | [_, _], _ => rfl)
  have d_L_sum := df_mk (st := s_L_sum) (ps := ["_law_table_here", "_law_pairs_here"]) X G a35 l35 c35 k35 (fun _ _ _ _ _ _ us hl => match us, hl with | [_, _], _ => rfl)
  have d_L_all_trees := df_mk (st := s_L_all_trees) (ps := ["_law_count_here"]) X G a36 l36 c36 k36 (fun _ _ _ _ _ _ us hl => match us, hl with | [_], _ => rfl)
  have d_L_shuffled := df_mk (st := s_L_shuffled) (ps := ["_law_drawn", "_law_count_here"]) X G a37 l37 c37 k37 (fun _ _ _ _ _ _ us hl => match us, hl with | [_, _], _ => rfl)
  have d_L_some_tree := df_mk (st := s_L_some_tree) (ps := ["_law_drawn", "_law_count_here"]) X G a38 l38 c38 k38 (fun _ _ _ _ _ _ us hl => match us, hl with | [_, _], _ => rfl)
  have d_L_lowest_tree := df_mk (st := s_L_lowest_tree) (ps := ["_law_drawn", "_law_table_here"]) X G a39 l39 c39 k39 (fun _ _ _ _ _ _ us hl => match us, hl with | [_, _], _ => rfl)
  have d_L_tree_right := df_mk (st := s_L_tree_right) (ps := ["_law_table_here", "_law_joining", "_law_first", "_law_tree"]) X G a40 l40 c40 k40 (fun _ _ _ _ _ _ us hl => match us, hl with | [_, _, _, _], _ => rfl)
  have d_L_exchanged := df_mk (st := s_L_exchanged) (ps := ["_law_table_here", "_law_first", "_law_tree", "_law_pair"]) X G a41 l41 c41 k41 (fun _ _ _ _ _ _ us hl => match us, hl with | [_, _, _, _], _ => rfl)
  have d_L_led_right := df_mk (st := s_L_led_right) (ps := ["_law_table_here", "_law_joining", "_law_first", "_law_tree"]) X G a42 l42 c42 k42 (fun _ _ _ _ _ _ us hl => match us, hl with | [_, _, _, _], _ => rfl)
  have TD : DrawDefs K mg := ⟨B, ⟨_, _, d_L_next⟩, ⟨_, _, d_L_one⟩, ⟨_, _, d_L_count⟩, ⟨_, _, d_L_grades⟩, ⟨_, _, d_L_level⟩, ⟨_, _, d_L_nested⟩, ⟨_, _, d_L_raised⟩, ⟨_, _, d_L_levels⟩, ⟨_, _, d_L_any⟩⟩
  have TL : Tl33 K mg := ⟨B, g_LEVEL, ⟨_, _, d_level_between⟩, ⟨_, _, d_level_grid⟩, ⟨_, _, d_lowest_grid⟩, ⟨_, _, d_pairs_of⟩, ⟨_, _, d_is_whole⟩, ⟨_, _, d_is_item⟩, ⟨_, _, d_is_pair⟩, ⟨_, _, d_own_sets⟩, ⟨_, _, d_united⟩, ⟨_, _, d_connects_all⟩, ⟨_, _, d_is_spanning⟩⟩
  have T : LawDefs K mg := ⟨TD, ⟨B, ⟨_, _, d_level_between⟩, ⟨_, _, d_pairs_of⟩, ⟨_, _, d_is_even⟩⟩, ⟨B, ⟨_, _, d_level_between⟩, ⟨_, _, d_level_grid⟩, ⟨_, _, d_lowest_grid⟩, ⟨_, _, d_join_grid⟩⟩, TL, ⟨_, _, d_L_draws⟩, ⟨_, _, d_L_table⟩, ⟨_, _, d_L_equal⟩, ⟨_, _, d_L_pairs⟩, ⟨_, _, d_L_is_connected⟩, ⟨_, _, d_L_sum⟩, ⟨_, _, d_L_all_trees⟩, ⟨_, _, d_L_shuffled⟩, ⟨_, _, d_L_some_tree⟩, ⟨_, _, d_L_lowest_tree⟩, ⟨_, _, d_L_tree_right⟩, ⟨_, _, d_L_exchanged⟩, ⟨_, _, d_L_led_right⟩, ⟨_, _, d_uneven_items⟩, ⟨_, _, d_is_nested⟩, ⟨_, _, d_nested_below⟩, ⟨_, _, d_tree_levels⟩, ⟨_, _, d_sum_of⟩, ⟨_, _, d_least_tree⟩, ⟨_, _, d_is_least_tree⟩⟩
  exact ⟨PySem.W.fnOf "law" "law" (defArgs s_law) (defBody s_law) (defScope s_law) .none kV43 dc43 pm43 an43 cd43 ct43, fun s v => .of_eq rfl, fun base _ _ => ok_law (fun_mk l43 c43 k43) T⟩
set_option maxHeartbeats 0 in
theorem hfacts {w : World} {K : PySem.W.Frag} {h : Heap} {mg : Str → Option Value} {fa : Addr} (X : K.In h) (G : h.Ns mainGlobals mg) (hfa : mg "law" = some (.ref fa)) (c : Says2 hfs hfn K) (ch : hhx K = hhv w) :
    ∃ fd : FuncData, (∀ (s : Shared) (v : Value), BindsTo s fd ⟨[v], []⟩ [("_law_script", v)]) ∧ ∀ base : Heap, K.In base → base.Ns mainGlobals mg → FnOk PySem.Challenge.rw_mergelevels_k33_whole_least_sums_and_joi.prog w K mg base CX0 11 fa fd ["_law_script"] (sp_law K) := by
  have a1 : PySem.W.nsIn K mainGlobals "is_whole" = some (some (.ref (He.ga K "is_whole"))) := of_decide_eq_true (c.fact 0 0)
  obtain ⟨_, _, _, kv_l1, _, _, _, _, _, l1, cc_l1⟩ := c.def_ 0 (d := ⟨fun K => (He.ga K "is_whole"), "is_whole", "is_whole", (defArgs s_is_whole), (defBody s_is_whole), (defScope s_is_whole)⟩) (by rfl)
  have k1 : PySem.W.keepIn K (.ref (He.ga K "is_whole")) = true := c.fact 0 1
  have a2 : PySem.W.nsIn K mainGlobals "is_item" = some (some (.ref (He.ga K "is_item"))) := of_decide_eq_true (c.fact 0 2)
  obtain ⟨_, _, _, kv_l2, _, _, _, _, _, l2, cc_l2⟩ := c.def_ 1 (d := ⟨fun K => (He.ga K "is_item"), "is_item", "is_item", (defArgs s_is_item), (defBody s_is_item), (defScope s_is_item)⟩) (by rfl)
  have k2 : PySem.W.keepIn K (.ref (He.ga K "is_item")) = true := c.fact 0 3
  have a3 : PySem.W.nsIn K mainGlobals "is_pair" = some (some (.ref (He.ga K "is_pair"))) := of_decide_eq_true (c.fact 0 4)
  obtain ⟨_, _, _, kv_l3, _, _, _, _, _, l3, cc_l3⟩ := c.def_ 2 (d := ⟨fun K => (He.ga K "is_pair"), "is_pair", "is_pair", (defArgs s_is_pair), (defBody s_is_pair), (defScope s_is_pair)⟩) (by rfl)
  have k3 : PySem.W.keepIn K (.ref (He.ga K "is_pair")) = true := c.fact 0 5
  have a4 : PySem.W.nsIn K mainGlobals "level_between" = some (some (.ref (He.ga K "level_between"))) := of_decide_eq_true (c.fact 0 6)
  obtain ⟨_, _, _, kv_l4, _, _, _, _, _, l4, cc_l4⟩ := c.def_ 3 (d := ⟨fun K => (He.ga K "level_between"), "level_between", "level_between", (defArgs s_level_between), (defBody s_level_between), (defScope s_level_between)⟩) (by rfl)
  have k4 : PySem.W.keepIn K (.ref (He.ga K "level_between")) = true := c.fact 0 7
  have a5 : PySem.W.nsIn K mainGlobals "pairs_of" = some (some (.ref (He.ga K "pairs_of"))) := of_decide_eq_true (c.fact 0 8)
  obtain ⟨_, _, _, kv_l5, _, _, _, _, _, l5, cc_l5⟩ := c.def_ 4 (d := ⟨fun K => (He.ga K "pairs_of"), "pairs_of", "pairs_of", (defArgs s_pairs_of), (defBody s_pairs_of), (defScope s_pairs_of)⟩) (by rfl)
  have k5 : PySem.W.keepIn K (.ref (He.ga K "pairs_of")) = true := c.fact 0 9
  have a6 : PySem.W.nsIn K mainGlobals "is_even" = some (some (.ref (He.ga K "is_even"))) := of_decide_eq_true (c.fact 0 10)
  obtain ⟨_, _, _, kv_l6, _, _, _, _, _, l6, cc_l6⟩ := c.def_ 5 (d := ⟨fun K => (He.ga K "is_even"), "is_even", "is_even", (defArgs s_is_even), (defBody s_is_even), (defScope s_is_even)⟩) (by rfl)
  have k6 : PySem.W.keepIn K (.ref (He.ga K "is_even")) = true := c.fact 0 11
  have a7 : PySem.W.nsIn K mainGlobals "uneven_items" = some (some (.ref (He.ga K "uneven_items"))) := of_decide_eq_true (c.fact 0 12)
  obtain ⟨_, _, _, kv_l7, _, _, _, _, _, l7, cc_l7⟩ := c.def_ 6 (d := ⟨fun K => (He.ga K "uneven_items"), "uneven_items", "uneven_items", (defArgs s_uneven_items), (defBody s_uneven_items), (defScope s_uneven_items)⟩) (by rfl)
  have k7 : PySem.W.keepIn K (.ref (He.ga K "uneven_items")) = true := c.fact 0 13
  have a8 : PySem.W.nsIn K mainGlobals "is_nested" = some (some (.ref (He.ga K "is_nested"))) := of_decide_eq_true (c.fact 0 14)
  obtain ⟨_, _, _, kv_l8, _, _, _, _, _, l8, cc_l8⟩ := c.def_ 7 (d := ⟨fun K => (He.ga K "is_nested"), "is_nested", "is_nested", (defArgs s_is_nested), (defBody s_is_nested), (defScope s_is_nested)⟩) (by rfl)
  have k8 : PySem.W.keepIn K (.ref (He.ga K "is_nested")) = true := c.fact 0 15
  have a9 : PySem.W.nsIn K mainGlobals "level_grid" = some (some (.ref (He.ga K "level_grid"))) := of_decide_eq_true (c.fact 0 16)
  obtain ⟨_, _, _, kv_l9, _, _, _, _, _, l9, cc_l9⟩ := c.def_ 8 (d := ⟨fun K => (He.ga K "level_grid"), "level_grid", "level_grid", (defArgs s_level_grid), (defBody s_level_grid), (defScope s_level_grid)⟩) (by rfl)
  have k9 : PySem.W.keepIn K (.ref (He.ga K "level_grid")) = true := c.fact 0 17
  have a10 : PySem.W.nsIn K mainGlobals "lowest_grid" = some (some (.ref (He.ga K "lowest_grid"))) := of_decide_eq_true (c.fact 0 18)
  obtain ⟨_, _, _, kv_l10, _, _, _, _, _, l10, cc_l10⟩ := c.def_ 9 (d := ⟨fun K => (He.ga K "lowest_grid"), "lowest_grid", "lowest_grid", (defArgs s_lowest_grid), (defBody s_lowest_grid), (defScope s_lowest_grid)⟩) (by rfl)
  have k10 : PySem.W.keepIn K (.ref (He.ga K "lowest_grid")) = true := c.fact 0 19
  have a11 : PySem.W.nsIn K mainGlobals "join_grid" = some (some (.ref (He.ga K "join_grid"))) := of_decide_eq_true (c.fact 0 20)
  obtain ⟨_, _, _, kv_l11, _, _, _, _, _, l11, cc_l11⟩ := c.def_ 10 (d := ⟨fun K => (He.ga K "join_grid"), "join_grid", "join_grid", (defArgs s_join_grid), (defBody s_join_grid), (defScope s_join_grid)⟩) (by rfl)
  have k11 : PySem.W.keepIn K (.ref (He.ga K "join_grid")) = true := c.fact 0 21
  have a12 : PySem.W.nsIn K mainGlobals "nested_below" = some (some (.ref (He.ga K "nested_below"))) := of_decide_eq_true (c.fact 0 22)
  obtain ⟨_, _, _, kv_l12, _, _, _, _, _, l12, cc_l12⟩ := c.def_ 11 (d := ⟨fun K => (He.ga K "nested_below"), "nested_below", "nested_below", (defArgs s_nested_below), (defBody s_nested_below), (defScope s_nested_below)⟩) (by rfl)
  have k12 : PySem.W.keepIn K (.ref (He.ga K "nested_below")) = true := c.fact 0 23
  have a13 : PySem.W.nsIn K mainGlobals "own_sets" = some (some (.ref (He.ga K "own_sets"))) := of_decide_eq_true (c.fact 0 24)
  obtain ⟨_, _, _, kv_l13, _, _, _, _, _, l13, cc_l13⟩ := c.def_ 12 (d := ⟨fun K => (He.ga K "own_sets"), "own_sets", "own_sets", (defArgs s_own_sets), (defBody s_own_sets), (defScope s_own_sets)⟩) (by rfl)
  have k13 : PySem.W.keepIn K (.ref (He.ga K "own_sets")) = true := c.fact 0 25
  have a14 : PySem.W.nsIn K mainGlobals "united" = some (some (.ref (He.ga K "united"))) := of_decide_eq_true (c.fact 0 26)
  obtain ⟨_, _, _, kv_l14, _, _, _, _, _, l14, cc_l14⟩ := c.def_ 13 (d := ⟨fun K => (He.ga K "united"), "united", "united", (defArgs s_united), (defBody s_united), (defScope s_united)⟩) (by rfl)
  have k14 : PySem.W.keepIn K (.ref (He.ga K "united")) = true := c.fact 0 27
  have a15 : PySem.W.nsIn K mainGlobals "connects_all" = some (some (.ref (He.ga K "connects_all"))) := of_decide_eq_true (c.fact 0 28)
  obtain ⟨_, _, _, kv_l15, _, _, _, _, _, l15, cc_l15⟩ := c.def_ 14 (d := ⟨fun K => (He.ga K "connects_all"), "connects_all", "connects_all", (defArgs s_connects_all), (defBody s_connects_all), (defScope s_connects_all)⟩) (by rfl)
  have k15 : PySem.W.keepIn K (.ref (He.ga K "connects_all")) = true := c.fact 0 29
  have a16 : PySem.W.nsIn K mainGlobals "is_spanning" = some (some (.ref (He.ga K "is_spanning"))) := of_decide_eq_true (c.fact 0 30)
  obtain ⟨_, _, _, kv_l16, _, _, _, _, _, l16, cc_l16⟩ := c.def_ 15 (d := ⟨fun K => (He.ga K "is_spanning"), "is_spanning", "is_spanning", (defArgs s_is_spanning), (defBody s_is_spanning), (defScope s_is_spanning)⟩) (by rfl)
  have k16 : PySem.W.keepIn K (.ref (He.ga K "is_spanning")) = true := c.fact 0 31
  have a17 : PySem.W.nsIn K mainGlobals "sum_of" = some (some (.ref (He.ga K "sum_of"))) := of_decide_eq_true (c.fact 0 32)
  obtain ⟨_, _, _, kv_l17, _, _, _, _, _, l17, cc_l17⟩ := c.def_ 16 (d := ⟨fun K => (He.ga K "sum_of"), "sum_of", "sum_of", (defArgs s_sum_of), (defBody s_sum_of), (defScope s_sum_of)⟩) (by rfl)
  have k17 : PySem.W.keepIn K (.ref (He.ga K "sum_of")) = true := c.fact 0 33
  have a18 : PySem.W.nsIn K mainGlobals "least_tree" = some (some (.ref (He.ga K "least_tree"))) := of_decide_eq_true (c.fact 0 34)
  obtain ⟨_, _, _, kv_l18, _, _, _, _, _, l18, cc_l18⟩ := c.def_ 17 (d := ⟨fun K => (He.ga K "least_tree"), "least_tree", "least_tree", (defArgs s_least_tree), (defBody s_least_tree), (defScope s_least_tree)⟩) (by rfl)
  have k18 : PySem.W.keepIn K (.ref (He.ga K "least_tree")) = true := c.fact 0 35
  have a19 : PySem.W.nsIn K mainGlobals "is_least_tree" = some (some (.ref (He.ga K "is_least_tree"))) := of_decide_eq_true (c.fact 0 36)
  obtain ⟨_, _, _, kv_l19, _, _, _, _, _, l19, cc_l19⟩ := c.def_ 18 (d := ⟨fun K => (He.ga K "is_least_tree"), "is_least_tree", "is_least_tree", (defArgs s_is_least_tree), (defBody s_is_least_tree), (defScope s_is_least_tree)⟩) (by rfl)
  have k19 : PySem.W.keepIn K (.ref (He.ga K "is_least_tree")) = true := c.fact 0 37
  have a20 : PySem.W.nsIn K mainGlobals "tree_levels" = some (some (.ref (He.ga K "tree_levels"))) := of_decide_eq_true (c.fact 0 38)
  obtain ⟨_, _, _, kv_l20, _, _, _, _, _, l20, cc_l20⟩ := c.def_ 19 (d := ⟨fun K => (He.ga K "tree_levels"), "tree_levels", "tree_levels", (defArgs s_tree_levels), (defBody s_tree_levels), (defScope s_tree_levels)⟩) (by rfl)
  have k20 : PySem.W.keepIn K (.ref (He.ga K "tree_levels")) = true := c.fact 0 39
  have a21 : PySem.W.nsIn K mainGlobals "_law_draws" = some (some (.ref (He.ga K "_law_draws"))) := of_decide_eq_true (c.fact 0 40)
  obtain ⟨_, _, _, kv_l21, _, _, _, _, _, l21, cc_l21⟩ := c.def_ 20 (d := ⟨fun K => (He.ga K "_law_draws"), "_law_draws", "_law_draws", (defArgs s_L_draws), (defBody s_L_draws), (defScope s_L_draws)⟩) (by rfl)
  have k21 : PySem.W.keepIn K (.ref (He.ga K "_law_draws")) = true := c.fact 0 41
  have a22 : PySem.W.nsIn K mainGlobals "_law_next" = some (some (.ref (He.ga K "_law_next"))) := of_decide_eq_true (c.fact 0 42)
  obtain ⟨_, _, _, kv_l22, _, _, _, _, _, l22, cc_l22⟩ := c.def_ 21 (d := ⟨fun K => (He.ga K "_law_next"), "_law_next", "_law_next", (defArgs s_L_next), (defBody s_L_next), (defScope s_L_next)⟩) (by rfl)
  have k22 : PySem.W.keepIn K (.ref (He.ga K "_law_next")) = true := c.fact 0 43
  have a23 : PySem.W.nsIn K mainGlobals "_law_one" = some (some (.ref (He.ga K "_law_one"))) := of_decide_eq_true (c.fact 0 44)
  obtain ⟨_, _, _, kv_l23, _, _, _, _, _, l23, cc_l23⟩ := c.def_ 22 (d := ⟨fun K => (He.ga K "_law_one"), "_law_one", "_law_one", (defArgs s_L_one), (defBody s_L_one), (defScope s_L_one)⟩) (by rfl)
  have k23 : PySem.W.keepIn K (.ref (He.ga K "_law_one")) = true := c.fact 0 45
  have a24 : PySem.W.nsIn K mainGlobals "_law_equal" = some (some (.ref (He.ga K "_law_equal"))) := of_decide_eq_true (c.fact 0 46)
  obtain ⟨_, _, _, kv_l24, _, _, _, _, _, l24, cc_l24⟩ := c.def_ 23 (d := ⟨fun K => (He.ga K "_law_equal"), "_law_equal", "_law_equal", (defArgs s_L_equal), (defBody s_L_equal), (defScope s_L_equal)⟩) (by rfl)
  have k24 : PySem.W.keepIn K (.ref (He.ga K "_law_equal")) = true := c.fact 0 47
  have a25 : PySem.W.nsIn K mainGlobals "_law_count" = some (some (.ref (He.ga K "_law_count"))) := of_decide_eq_true (c.fact 0 48)
  obtain ⟨_, _, _, kv_l25, _, _, _, _, _, l25, cc_l25⟩ := c.def_ 24 (d := ⟨fun K => (He.ga K "_law_count"), "_law_count", "_law_count", (defArgs s_L_count), (defBody s_L_count), (defScope s_L_count)⟩) (by rfl)
  have k25 : PySem.W.keepIn K (.ref (He.ga K "_law_count")) = true := c.fact 0 49
  have a26 : PySem.W.nsIn K mainGlobals "_law_grades" = some (some (.ref (He.ga K "_law_grades"))) := of_decide_eq_true (c.fact 0 50)
  obtain ⟨_, _, _, kv_l26, _, _, _, _, _, l26, cc_l26⟩ := c.def_ 25 (d := ⟨fun K => (He.ga K "_law_grades"), "_law_grades", "_law_grades", (defArgs s_L_grades), (defBody s_L_grades), (defScope s_L_grades)⟩) (by rfl)
  have k26 : PySem.W.keepIn K (.ref (He.ga K "_law_grades")) = true := c.fact 0 51
  have a27 : PySem.W.nsIn K mainGlobals "_law_level" = some (some (.ref (He.ga K "_law_level"))) := of_decide_eq_true (c.fact 0 52)
  obtain ⟨_, _, _, kv_l27, _, _, _, _, _, l27, cc_l27⟩ := c.def_ 26 (d := ⟨fun K => (He.ga K "_law_level"), "_law_level", "_law_level", (defArgs s_L_level), (defBody s_L_level), (defScope s_L_level)⟩) (by rfl)
  have k27 : PySem.W.keepIn K (.ref (He.ga K "_law_level")) = true := c.fact 0 53
  have a28 : PySem.W.nsIn K mainGlobals "_law_nested" = some (some (.ref (He.ga K "_law_nested"))) := of_decide_eq_true (c.fact 0 54)
  obtain ⟨_, _, _, kv_l28, _, _, _, _, _, l28, cc_l28⟩ := c.def_ 27 (d := ⟨fun K => (He.ga K "_law_nested"), "_law_nested", "_law_nested", (defArgs s_L_nested), (defBody s_L_nested), (defScope s_L_nested)⟩) (by rfl)
  have k28 : PySem.W.keepIn K (.ref (He.ga K "_law_nested")) = true := c.fact 0 55
  have a29 : PySem.W.nsIn K mainGlobals "_law_raised" = some (some (.ref (He.ga K "_law_raised"))) := of_decide_eq_true (c.fact 0 56)
  obtain ⟨_, _, _, kv_l29, _, _, _, _, _, l29, cc_l29⟩ := c.def_ 28 (d := ⟨fun K => (He.ga K "_law_raised"), "_law_raised", "_law_raised", (defArgs s_L_raised), (defBody s_L_raised), (defScope s_L_raised)⟩) (by rfl)
  have k29 : PySem.W.keepIn K (.ref (He.ga K "_law_raised")) = true := c.fact 0 57
  have a30 : PySem.W.nsIn K mainGlobals "_law_levels" = some (some (.ref (He.ga K "_law_levels"))) := of_decide_eq_true (c.fact 0 58)
  obtain ⟨_, _, _, kv_l30, _, _, _, _, _, l30, cc_l30⟩ := c.def_ 29 (d := ⟨fun K => (He.ga K "_law_levels"), "_law_levels", "_law_levels", (defArgs s_L_levels), (defBody s_L_levels), (defScope s_L_levels)⟩) (by rfl)
  have k30 : PySem.W.keepIn K (.ref (He.ga K "_law_levels")) = true := c.fact 0 59
  have a31 : PySem.W.nsIn K mainGlobals "_law_any" = some (some (.ref (He.ga K "_law_any"))) := of_decide_eq_true (c.fact 0 60)
  obtain ⟨_, _, _, kv_l31, _, _, _, _, _, l31, cc_l31⟩ := c.def_ 30 (d := ⟨fun K => (He.ga K "_law_any"), "_law_any", "_law_any", (defArgs s_L_any), (defBody s_L_any), (defScope s_L_any)⟩) (by rfl)
  have k31 : PySem.W.keepIn K (.ref (He.ga K "_law_any")) = true := c.fact 0 61
  have a32 : PySem.W.nsIn K mainGlobals "_law_table" = some (some (.ref (He.ga K "_law_table"))) := of_decide_eq_true (c.fact 0 62)
  obtain ⟨_, _, _, kv_l32, _, _, _, _, _, l32, cc_l32⟩ := c.def_ 31 (d := ⟨fun K => (He.ga K "_law_table"), "_law_table", "_law_table", (defArgs s_L_table), (defBody s_L_table), (defScope s_L_table)⟩) (by rfl)
  have k32 : PySem.W.keepIn K (.ref (He.ga K "_law_table")) = true := c.fact 0 63
  have a33 : PySem.W.nsIn K mainGlobals "_law_pairs" = some (some (.ref (He.ga K "_law_pairs"))) := of_decide_eq_true (c.fact 0 64)
  obtain ⟨_, _, _, kv_l33, _, _, _, _, _, l33, cc_l33⟩ := c.def_ 32 (d := ⟨fun K => (He.ga K "_law_pairs"), "_law_pairs", "_law_pairs", (defArgs s_L_pairs), (defBody s_L_pairs), (defScope s_L_pairs)⟩) (by rfl)
  have k33 : PySem.W.keepIn K (.ref (He.ga K "_law_pairs")) = true := c.fact 0 65
  have a34 : PySem.W.nsIn K mainGlobals "_law_is_connected" = some (some (.ref (He.ga K "_law_is_connected"))) := of_decide_eq_true (c.fact 0 66)
  obtain ⟨_, _, _, kv_l34, _, _, _, _, _, l34, cc_l34⟩ := c.def_ 33 (d := ⟨fun K => (He.ga K "_law_is_connected"), "_law_is_connected", "_law_is_connected", (defArgs s_L_is_connected), (defBody s_L_is_connected), (defScope s_L_is_connected)⟩) (by rfl)
  have k34 : PySem.W.keepIn K (.ref (He.ga K "_law_is_connected")) = true := c.fact 0 67
  have a35 : PySem.W.nsIn K mainGlobals "_law_sum" = some (some (.ref (He.ga K "_law_sum"))) := of_decide_eq_true (c.fact 0 68)
  obtain ⟨_, _, _, kv_l35, _, _, _, _, _, l35, cc_l35⟩ := c.def_ 34 (d := ⟨fun K => (He.ga K "_law_sum"), "_law_sum", "_law_sum", (defArgs s_L_sum), (defBody s_L_sum), (defScope s_L_sum)⟩) (by rfl)
  have k35 : PySem.W.keepIn K (.ref (He.ga K "_law_sum")) = true := c.fact 0 69
  have a36 : PySem.W.nsIn K mainGlobals "_law_all_trees" = some (some (.ref (He.ga K "_law_all_trees"))) := of_decide_eq_true (c.fact 0 70)
  obtain ⟨_, _, _, kv_l36, _, _, _, _, _, l36, cc_l36⟩ := c.def_ 35 (d := ⟨fun K => (He.ga K "_law_all_trees"), "_law_all_trees", "_law_all_trees", (defArgs s_L_all_trees), (defBody s_L_all_trees), (defScope s_L_all_trees)⟩) (by rfl)
  have k36 : PySem.W.keepIn K (.ref (He.ga K "_law_all_trees")) = true := c.fact 0 71
  have a37 : PySem.W.nsIn K mainGlobals "_law_shuffled" = some (some (.ref (He.ga K "_law_shuffled"))) := of_decide_eq_true (c.fact 0 72)
  obtain ⟨_, _, _, kv_l37, _, _, _, _, _, l37, cc_l37⟩ := c.def_ 36 (d := ⟨fun K => (He.ga K "_law_shuffled"), "_law_shuffled", "_law_shuffled", (defArgs s_L_shuffled), (defBody s_L_shuffled), (defScope s_L_shuffled)⟩) (by rfl)
  have k37 : PySem.W.keepIn K (.ref (He.ga K "_law_shuffled")) = true := c.fact 0 73
  have a38 : PySem.W.nsIn K mainGlobals "_law_some_tree" = some (some (.ref (He.ga K "_law_some_tree"))) := of_decide_eq_true (c.fact 0 74)
  obtain ⟨_, _, _, kv_l38, _, _, _, _, _, l38, cc_l38⟩ := c.def_ 37 (d := ⟨fun K => (He.ga K "_law_some_tree"), "_law_some_tree", "_law_some_tree", (defArgs s_L_some_tree), (defBody s_L_some_tree), (defScope s_L_some_tree)⟩) (by rfl)
  have k38 : PySem.W.keepIn K (.ref (He.ga K "_law_some_tree")) = true := c.fact 0 75
  have a39 : PySem.W.nsIn K mainGlobals "_law_lowest_tree" = some (some (.ref (He.ga K "_law_lowest_tree"))) := of_decide_eq_true (c.fact 0 76)
  obtain ⟨_, _, _, kv_l39, _, _, _, _, _, l39, cc_l39⟩ := c.def_ 38 (d := ⟨fun K => (He.ga K "_law_lowest_tree"), "_law_lowest_tree", "_law_lowest_tree", (defArgs s_L_lowest_tree), (defBody s_L_lowest_tree), (defScope s_L_lowest_tree)⟩) (by rfl)
  have k39 : PySem.W.keepIn K (.ref (He.ga K "_law_lowest_tree")) = true := c.fact 0 77
  have a40 : PySem.W.nsIn K mainGlobals "_law_tree_right" = some (some (.ref (He.ga K "_law_tree_right"))) := of_decide_eq_true (c.fact 0 78)
  obtain ⟨_, _, _, kv_l40, _, _, _, _, _, l40, cc_l40⟩ := c.def_ 39 (d := ⟨fun K => (He.ga K "_law_tree_right"), "_law_tree_right", "_law_tree_right", (defArgs s_L_tree_right), (defBody s_L_tree_right), (defScope s_L_tree_right)⟩) (by rfl)
  have k40 : PySem.W.keepIn K (.ref (He.ga K "_law_tree_right")) = true := c.fact 0 79
  have a41 : PySem.W.nsIn K mainGlobals "_law_exchanged" = some (some (.ref (He.ga K "_law_exchanged"))) := of_decide_eq_true (c.fact 0 80)
  obtain ⟨_, _, _, kv_l41, _, _, _, _, _, l41, cc_l41⟩ := c.def_ 40 (d := ⟨fun K => (He.ga K "_law_exchanged"), "_law_exchanged", "_law_exchanged", (defArgs s_L_exchanged), (defBody s_L_exchanged), (defScope s_L_exchanged)⟩) (by rfl)
  have k41 : PySem.W.keepIn K (.ref (He.ga K "_law_exchanged")) = true := c.fact 0 81
  have a42 : PySem.W.nsIn K mainGlobals "_law_led_right" = some (some (.ref (He.ga K "_law_led_right"))) := of_decide_eq_true (c.fact 0 82)
  obtain ⟨_, _, _, kv_l42, _, _, _, _, _, l42, cc_l42⟩ := c.def_ 41 (d := ⟨fun K => (He.ga K "_law_led_right"), "_law_led_right", "_law_led_right", (defArgs s_L_led_right), (defBody s_L_led_right), (defScope s_L_led_right)⟩) (by rfl)
  have k42 : PySem.W.keepIn K (.ref (He.ga K "_law_led_right")) = true := c.fact 0 83
  have a43 : PySem.W.nsIn K mainGlobals "law" = some (some (.ref (He.ga K "law"))) := of_decide_eq_true (c.fact 0 84)
  obtain ⟨_, _, _, kv_l43, _, _, _, _, _, l43, cc_l43⟩ := c.def_ 42 (d := ⟨fun K => (He.ga K "law"), "law", "law", (defArgs s_law), (defBody s_law), (defScope s_law)⟩) (by rfl)
  have k43 : PySem.W.keepIn K (.ref (He.ga K "law")) = true := c.fact 0 85
  have n_LEVEL : PySem.W.nsIn K mainGlobals "LEVEL" = some (some (.int 1000000000000 (tkG K "LEVEL"))) := of_decide_eq_true (c.fact 0 86)
  have z1 : PySem.W.nsIn K mainGlobals "len" = some none := of_decide_eq_true (c.fact 0 87)
  have z2 : PySem.W.nsIn K mainGlobals "list" = some none := of_decide_eq_true (c.fact 0 88)
  have z3 : PySem.W.nsIn K mainGlobals "int" = some none := of_decide_eq_true (c.fact 0 89)
  have z4 : PySem.W.nsIn K mainGlobals "range" = some none := of_decide_eq_true (c.fact 0 90)
  have z5 : PySem.W.nsIn K mainGlobals "sorted" = some none := of_decide_eq_true (c.fact 0 91)
  have z6 : PySem.W.nsIn K mainGlobals "set" = some none := of_decide_eq_true (c.fact 0 92)
  have z7 : PySem.W.nsIn K mainGlobals "tuple" = some none := of_decide_eq_true (c.fact 0 93)
  have z8 : PySem.W.nsIn K mainGlobals "min" = some none := of_decide_eq_true (c.fact 0 94)
  have z9 : PySem.W.nsIn K mainGlobals "max" = some none := of_decide_eq_true (c.fact 0 95)
  have z10 : PySem.W.nsIn K mainGlobals "isinstance" = some none := of_decide_eq_true (c.fact 0 96)
  have z11 : PySem.W.nsIn K mainGlobals "bool" = some none := of_decide_eq_true (c.fact 0 97)
  have z12 : PySem.W.nsIn K mainGlobals "str" = some none := of_decide_eq_true (c.fact 0 98)
  have z13 : PySem.W.nsIn K mainGlobals "all" = some none := of_decide_eq_true (c.fact 0 99)
  have z14 : PySem.W.nsIn K mainGlobals "zip" = some none := of_decide_eq_true (c.fact 0 100)
  have z15 : PySem.W.nsIn K mainGlobals "repr" = some none := of_decide_eq_true (c.fact 0 101)
  have z16 : PySem.W.nsIn K mainGlobals "enumerate" = some none := of_decide_eq_true (c.fact 0 102)
  have z17 : PySem.W.nsIn K mainGlobals "abs" = some none := of_decide_eq_true (c.fact 0 103)
  have z18 : PySem.W.nsIn K mainGlobals "sum" = some none := of_decide_eq_true (c.fact 0 104)
  have z19 : PySem.W.nsIn K mainGlobals "dict" = some none := of_decide_eq_true (c.fact 0 105)
  exact all_mk (l := PySem.Challenge.rw_mergelevels_k33_whole_least_sums_and_joi) X G hfa a1 l1 cc_l1 k1 a2 l2 cc_l2 k2 a3 l3 cc_l3 k3 a4 l4 cc_l4 k4 a5 l5 cc_l5 k5 a6 l6 cc_l6 k6 a7 l7 cc_l7 k7 a8 l8 cc_l8 k8 a9 l9 cc_l9 k9 a10 l10 cc_l10 k10 a11 l11 cc_l11 k11 a12 l12 cc_l12 k12 a13 l13 cc_l13 k13 a14 l14 cc_l14 k14 a15 l15 cc_l15 k15 a16 l16 cc_l16 k16 a17 l17 cc_l17 k17 a18 l18 cc_l18 k18 a19 l19 cc_l19 k19 a20 l20 cc_l20 k20 a21 l21 cc_l21 k21 a22 l22 cc_l22 k22 a23 l23 cc_l23 k23 a24 l24 cc_l24 k24 a25 l25 cc_l25 k25 a26 l26 cc_l26 k26 a27 l27 cc_l27 k27 a28 l28 cc_l28 k28 a29 l29 cc_l29 k29 a30 l30 cc_l30 k30 a31 l31 cc_l31 k31 a32 l32 cc_l32 k32 a33 l33 cc_l33 k33 a34 l34 cc_l34 k34 a35 l35 cc_l35 k35 a36 l36 cc_l36 k36 a37 l37 cc_l37 k37 a38 l38 cc_l38 k38 a39 l39 cc_l39 k39 a40 l40 cc_l40 k40 a41 l41 cc_l41 k41 a42 l42 cc_l42 k42 a43 l43 cc_l43 k43 n_LEVEL z1 z2 z3 z4 z5 z6 z7 z8 z9 z10 z11 z12 z13 z14 z15 z16 z17 z18 z19
end Ml
open PySem PySem.W PySem.Calls PyProof.Rows
set_option maxHeartbeats 0 in
theorem PySem.Challenge.cw_mergelevels_k33_whole_least_sums_and_joi_holds : PySem.Challenge.rw_mergelevels_k33_whole_least_sums_and_joi.Holds := by
  w_on; o_law
  refine HandSHeadRun.head_any (r := OpenLaw.row PySem.Challenge.rw_mergelevels_k33_whole_least_sums_and_joi) (q := view (OpenLaw.row PySem.Challenge.rw_mergelevels_k33_whole_least_sums_and_joi).prog [50]) (H := Ml.hk) (ob := Ml.ob3 5 Ml.hfs Ml.hfn Ml.hhx) (M := 20000) (loose := Ml.hlo) (d := HandSHeadRun.topDef (OpenLaw.row PySem.Challenge.rw_mergelevels_k33_whole_least_sums_and_joi).prog 50) (kwd := []) Ml.ob3_eq
    (by kernel_rfl) (fun s => by kernel_rfl) Ml.hrun (by kernel_rfl) (by kernel_rfl) (by kernel_rfl) (by rfl) (by first | assumption | decide +kernel) (by decide +kernel) ⟨rfl, rfl, rfl, rfl, rfl, by decide +kernel⟩ ?hw ?hc
  case hw => w_witness2
  case hc =>
    refine L2.walk_ofE (l := PySem.Challenge.rw_mergelevels_k33_whole_least_sums_and_joi) (n := 63) (k := 11) (x := "_law_script") (CX := L2.CX0) rfl (by decide) (by kernel_rfl) ⟨rfl, by decide, by decide⟩ ?F (fun _ _ _ _ z => z)
    intro w mg fa h Y G hmg0
    obtain ⟨K, KX, c, ch⟩ := Y
    have hmg : mg ("law" : PySem.Str) = some (.ref fa) := by
      have e : (HandSHeadRun.topDef (OpenLaw.row PySem.Challenge.rw_mergelevels_k33_whole_least_sums_and_joi).prog 50).name = ("law" : PySem.Str) := by kernel_rfl
      rw [← e]
      exact hmg0
    obtain ⟨fd, hb, hF⟩ := Ml.hfacts KX G hmg c ch
    exact ⟨K, fd, Ml.sp_law K, KX, hb, fun H a ns hl _ hS => ⟨a, ns, rfl, hS, hl, fun _ => rfl⟩, hF⟩

import PyProof.Rows.All
import Wide.All
import OpenK.AllK
import Wide.FinOn
import HandS.Base
import HandS.Call
import HandS.List
import HandS.Comp
import HandS.Ends
import HandS.Iter
import HandS.NoneIn
import HandS.SetFor
import HandS.Strs
import HandS.TupAny
import HandS.IsInst
import HandS.Zip
import HandS.Zip0
import PyProof.Draws
import PyProof.EnumMake
import HandS.SetBool
import HandS.SortInts
import HandS.Words
import HandS.Wide
import HandS.Codes
import HandS.Conv
import PySem.Challenge.RW_mergelevels_k06_whole_names_of_items
set_option Elab.async false
set_option linter.all false
set_option maxRecDepth 100000
set_option maxHeartbeats 4000000
namespace Ml
open PySem PySem.Spec PyProof.Rows L2
/-! ### heaps -/
def Sm (H H' : Hp) : Prop := ∀ b o, H b = some o → H' b = some o
theorem Sm.refl (H : Hp) : Sm H H := fun _ _ h => h
theorem Sm.trans {H H1 H2 : Hp} (a : Sm H H1) (b : Sm H1 H2) : Sm H H2 := fun c o h => b c o (a c o h)
theorem Sm.new {H : Hp} {p : Addr} {o : HO} (h : H p = none) : Sm H (upd H p o) := fun b x e => by
  rw [upd_ne (ne_of_none e h)]
  exact e
theorem Sm.free {H H' : Hp} (e : Sm H H') {l : Addr} (h : H' l = none) : H l = none := by
  cases q : H l with
  | none => rfl
  | some o => rw [e l o q] at h; cases h
theorem Sm.rd {H H' : Hp} {a : Addr} {u : HO} (e : Sm H H') (h : Rd H a u) : Rd H' a u := by
  rcases h with h | ⟨o, h⟩
  · exact .inl (e _ _ h)
  · exact .inr ⟨o, e _ _ h⟩
theorem Sm.sqL {K : PySem.W.Frag} {H H' : Hp} {a : Addr} {xs : List V} (e : Sm H H') (h : SqL K H a xs) : SqL K H' a xs := by
  rcases h with h | h
  · exact .inl (e.rd h)
  · exact .inr h
theorem Sm.sqT {K : PySem.W.Frag} {H H' : Hp} {a : Addr} {xs : List V} (e : Sm H H') (h : SqT K H a xs) : SqT K H' a xs := by
  rcases h with h | h
  · exact .inl (e.rd h)
  · exact .inr h
/-- all but the two places of a drawing stays -/
def Kp (d r : Addr) (H H' : Hp) : Prop := ∀ b o, H b = some o → b ≠ d → b ≠ r → H' b = some o
theorem Kp.refl (d r : Addr) (H : Hp) : Kp d r H H := fun _ _ h _ _ => h
theorem Kp.trans {d r : Addr} {H H1 H2 : Hp} (a : Kp d r H H1) (b : Kp d r H1 H2) : Kp d r H H2 := fun c o h h1 h2 => b c o (a c o h h1 h2) h1 h2
theorem Sm.kp {d r : Addr} {H H' : Hp} (a : Sm H H') : Kp d r H H' := fun c o h _ _ => a c o h
theorem Kp.new {d r : Addr} {H : Hp} {p : Addr} {o : HO} (h : H p = none) : Kp d r H (upd H p o) := (Sm.new h).kp
theorem Kp.sqL {K : PySem.W.Frag} {d r : Addr} {H H' : Hp} {a : Addr} {xs : List V} (e : Kp d r H H') (h1 : a ≠ d) (h2 : a ≠ r) (h : SqL K H a xs) : SqL K H' a xs := by
  rcases h with (h | ⟨o, h⟩) | h
  · exact .inl (.inl (e _ _ h h1 h2))
  · exact .inl (.inr ⟨o, e _ _ h h1 h2⟩)
  · exact .inr h
/-- what is drawn from: the cells, how often, the rests -/
structure Dr (H : Hp) (d c r : Addr) (n : Nat) : Prop where
  ex : ∃ (cells rests : List Int) (t : Nat), H d = some (.lst [.ref c, .int (t : Int), .ref r]) ∧ H c = some (.lst (cells.map V.int)) ∧ H r = some (.lst (rests.map V.int)) ∧
    cells.length = rests.length ∧ 0 < cells.length ∧ cells.length ≤ 64 ∧ t ≤ n ∧ ∀ x ∈ rests, 0 ≤ x
  dc : d ≠ c
  dr : d ≠ r
  cr : c ≠ r
theorem Dr.d_lst {H : Hp} {d c r : Addr} {n : Nat} (h : Dr H d c r n) : ∃ xs, H d = some (.lst xs) := by
  obtain ⟨_, _, _, h1, _⟩ := h.ex
  exact ⟨_, h1⟩
theorem Dr.r_lst {H : Hp} {d c r : Addr} {n : Nat} (h : Dr H d c r n) : ∃ xs, H r = some (.lst xs) := by
  obtain ⟨_, _, _, _, _, h1, _⟩ := h.ex
  exact ⟨_, h1⟩
theorem Dr.c_lst {H : Hp} {d c r : Addr} {n : Nat} (h : Dr H d c r n) : ∃ xs, H c = some (.lst xs) := by
  obtain ⟨_, _, _, _, h1, _⟩ := h.ex
  exact ⟨_, h1⟩
theorem Dr.mono {H : Hp} {d c r : Addr} {n m : Nat} (h : Dr H d c r n) (e : n ≤ m) : Dr H d c r m := by
  obtain ⟨⟨cs, rs, t, h1, h2, h3, h4, h5, h6, h7, h8⟩, a, b, k⟩ := h
  exact ⟨⟨cs, rs, t, h1, h2, h3, h4, h5, h6, Nat.le_trans h7 e, h8⟩, a, b, k⟩
theorem Dr.same {H H' : Hp} {d c r : Addr} {n : Nat} (h : Dr H d c r n) (e : Sm H H') : Dr H' d c r n := by
  obtain ⟨⟨cs, rs, t, h1, h2, h3, h4⟩, a, b, k⟩ := h
  exact ⟨⟨cs, rs, t, e _ _ h1, e _ _ h2, e _ _ h3, h4⟩, a, b, k⟩
/-- an object that is stored into, elsewhere -/
theorem Dr.upd {H : Hp} {d c r p : Addr} {n : Nat} {o : HO} (h : Dr H d c r n) (h1 : p ≠ d) (h2 : p ≠ c) (h3 : p ≠ r) : Dr (L2.upd H p o) d c r n := by
  obtain ⟨⟨cs, rs, t, e1, e2, e3, e4⟩, a, b, k⟩ := h
  refine ⟨⟨cs, rs, t, ?_, ?_, ?_, e4⟩, a, b, k⟩
  · rw [upd_ne h1.symm]; exact e1
  · rw [upd_ne h2.symm]; exact e2
  · rw [upd_ne h3.symm]; exact e3
theorem Dr.new {H : Hp} {d c r p : Addr} {n : Nat} {o : HO} (h : Dr H d c r n) (hp : H p = none) : Dr (L2.upd H p o) d c r n := h.same (Sm.new hp)
theorem Dr.ne {H : Hp} {d c r p : Addr} {n : Nat} (h : Dr H d c r n) (hp : H p = none) : p ≠ d ∧ p ≠ c ∧ p ≠ r := by
  obtain ⟨x, h1⟩ := h.d_lst
  obtain ⟨y, h2⟩ := h.c_lst
  obtain ⟨z, h3⟩ := h.r_lst
  exact ⟨(ne_of_none h1 hp).symm, (ne_of_none h2 hp).symm, (ne_of_none h3 hp).symm⟩
theorem Dr.kpT {K : PySem.W.Frag} {H H' : Hp} {d c r a : Addr} {n : Nat} {xs : List V} (h : Dr H d c r n) (e : Kp d r H H') (hs : SqT K H a xs) : SqT K H' a xs := by
  obtain ⟨x, h1⟩ := h.d_lst
  obtain ⟨y, h2⟩ := h.r_lst
  rcases hs with (q | ⟨o, q⟩) | q
  · exact .inl (.inl (e _ _ q (ne_of q h1 (by intro z; cases z)) (ne_of q h2 (by intro z; cases z))))
  · exact .inl (.inr ⟨o, e _ _ q (ne_of q h1 (by intro z; cases z)) (ne_of q h2 (by intro z; cases z))⟩)
  · exact .inr q
/-! ### tuples of ints, tables -/
def IT (K : PySem.W.Frag) (H : Hp) (v : V) (ns : List Int) : Prop := ∃ p, v = .ref p ∧ SqT K H p (ns.map V.int)
def Rows (K : PySem.W.Frag) (H : Hp) (vs : List V) (t : List (List Int)) : Prop := vs.length = t.length ∧ ∀ (i : Nat) v ns, vs[i]? = some v → t[i]? = some ns → IT K H v ns
def TT (K : PySem.W.Frag) (H : Hp) (v : V) (t : List (List Int)) : Prop := ∃ p vs, v = .ref p ∧ SqT K H p vs ∧ Rows K H vs t
theorem IT.same {K : PySem.W.Frag} {H H' : Hp} {v : V} {ns : List Int} (h : IT K H v ns) (e : Sm H H') : IT K H' v ns := by
  obtain ⟨p, h1, h2⟩ := h
  exact ⟨p, h1, e.sqT h2⟩
theorem Rows.same {K : PySem.W.Frag} {H H' : Hp} {vs : List V} {t : List (List Int)} (h : Rows K H vs t) (e : Sm H H') : Rows K H' vs t :=
  ⟨h.1, fun i v ns a b => (h.2 i v ns a b).same e⟩
theorem TT.same {K : PySem.W.Frag} {H H' : Hp} {v : V} {t : List (List Int)} (h : TT K H v t) (e : Sm H H') : TT K H' v t := by
  obtain ⟨p, vs, h1, h2, h3⟩ := h
  exact ⟨p, vs, h1, e.sqT h2, h3.same e⟩
theorem IT.kp {K : PySem.W.Frag} {H H' : Hp} {d c r : Addr} {n : Nat} {v : V} {ns : List Int} (h : IT K H v ns) (g : Dr H d c r n) (e : Kp d r H H') : IT K H' v ns := by
  obtain ⟨p, h1, h2⟩ := h
  exact ⟨p, h1, g.kpT e h2⟩
theorem Rows.kp {K : PySem.W.Frag} {H H' : Hp} {d c r : Addr} {n : Nat} {vs : List V} {t : List (List Int)} (h : Rows K H vs t) (g : Dr H d c r n) (e : Kp d r H H') : Rows K H' vs t :=
  ⟨h.1, fun i v ns a b => (h.2 i v ns a b).kp g e⟩
theorem TT.kp {K : PySem.W.Frag} {H H' : Hp} {d c r : Addr} {n : Nat} {v : V} {t : List (List Int)} (h : TT K H v t) (g : Dr H d c r n) (e : Kp d r H H') : TT K H' v t := by
  obtain ⟨p, vs, h1, h2, h3⟩ := h
  exact ⟨p, vs, h1, g.kpT e h2, h3.kp g e⟩
/-- stores into a list -/
theorem sqT_upd {K : PySem.W.Frag} {H : Hp} {a p : Addr} {xs ys zs : List V} (hp : H p = some (.lst ys)) (hs : SqT K H a xs) : SqT K (L2.upd H p (.lst zs)) a xs := by
  rcases hs with (q | ⟨o, q⟩) | q
  · exact .inl (.inl (by rw [upd_ne (ne_of q hp (by intro z; cases z))]; exact q))
  · exact .inl (.inr ⟨o, by rw [upd_ne (ne_of q hp (by intro z; cases z))]; exact q⟩)
  · exact .inr q
theorem IT.upd {K : PySem.W.Frag} {H : Hp} {p : Addr} {ys zs : List V} {v : V} {ns : List Int} (h : IT K H v ns) (hp : H p = some (.lst ys)) : IT K (L2.upd H p (.lst zs)) v ns := by
  obtain ⟨q, h1, h2⟩ := h
  exact ⟨q, h1, sqT_upd hp h2⟩
theorem Rows.upd {K : PySem.W.Frag} {H : Hp} {p : Addr} {ys zs : List V} {vs : List V} {t : List (List Int)} (h : Rows K H vs t) (hp : H p = some (.lst ys)) : Rows K (L2.upd H p (.lst zs)) vs t :=
  ⟨h.1, fun i v ns a b => (h.2 i v ns a b).upd hp⟩
theorem Rows.nil {K : PySem.W.Frag} {H : Hp} : Rows K H [] [] := ⟨rfl, fun i v ns a _ => by simp at a⟩
theorem Rows.snoc {K : PySem.W.Frag} {H : Hp} {vs : List V} {t : List (List Int)} {v : V} {ns : List Int} (h : Rows K H vs t) (q : IT K H v ns) : Rows K H (vs ++ [v]) (t ++ [ns]) := by
  refine ⟨by rw [List.length_append, List.length_append, h.1]; rfl, fun i u ms a b => ?_⟩
  by_cases hi : i < vs.length
  · rw [List.getElem?_append_left hi] at a
    rw [List.getElem?_append_left (by rw [← h.1]; exact hi)] at b
    exact h.2 i u ms a b
  · rw [List.getElem?_append_right (by omega)] at a
    rw [List.getElem?_append_right (by rw [← h.1]; omega), ← h.1] at b
    cases e : i - vs.length with
    | zero =>
      rw [e] at a b
      cases Option.some.inj a
      cases Option.some.inj b
      exact q
    | succ k => rw [e] at a; simp at a
theorem Rows.get {K : PySem.W.Frag} {H : Hp} {vs : List V} {t : List (List Int)} (h : Rows K H vs t) {i : Nat} (hi : i < t.length) : ∃ v p, vs[i]? = some v ∧ v = .ref p ∧ SqT K H p ((t.getD i []).map V.int) := by
  have h1 : i < vs.length := by rw [h.1]; exact hi
  have a : vs[i]? = some vs[i] := List.getElem?_eq_getElem h1
  have b : t[i]? = some t[i] := List.getElem?_eq_getElem hi
  obtain ⟨p, e, q⟩ := h.2 i _ _ a b
  refine ⟨_, p, a, e, ?_⟩
  rw [List.getD_eq_getElem?_getD, b]
  exact q
/-- a table's levels -/
def LvOk (x : Int) : Prop := 1 ≤ x ∧ x ≤ 1000000000000
def WT (t : List (List Int)) : Prop := ∀ (i : Nat) ns, t[i]? = some ns → ns.length = i ∧ ∀ x ∈ ns, LvOk x
def lev (t : List (List Int)) (i j : Nat) : Int := if i = j then 0 else (t.getD (max i j) []).getD (min i j) 0
theorem lev_comm (t : List (List Int)) (i j : Nat) : lev t i j = lev t j i := by
  unfold lev
  by_cases h : i = j
  · rw [if_pos h, if_pos h.symm]
  · rw [if_neg h, if_neg (fun e => h e.symm), Nat.max_comm, Nat.min_comm]
theorem WT.row {t : List (List Int)} (h : WT t) {i : Nat} (hi : i < t.length) : (t.getD i []).length = i ∧ ∀ x ∈ t.getD i [], LvOk x := by
  have b : t[i]? = some t[i] := List.getElem?_eq_getElem hi
  rw [List.getD_eq_getElem?_getD, b]
  exact h i _ b
theorem WT.lev {t : List (List Int)} (h : WT t) {i j : Nat} (hi : i < t.length) (hj : j < t.length) (hij : i ≠ j) : LvOk (lev t i j) := by
  unfold Ml.lev
  rw [if_neg hij]
  have hm : max i j < t.length := by omega
  obtain ⟨h1, h2⟩ := h.row hm
  have hl : min i j < (t.getD (max i j) []).length := by omega
  rw [List.getD_eq_getElem?_getD, List.getElem?_eq_getElem hl]
  exact h2 _ (List.getElem_mem hl)
theorem WT.nil : WT [] := fun i ns h => by simp at h
theorem WT.snoc {t : List (List Int)} {ns : List Int} (h : WT t) (h1 : ns.length = t.length) (h2 : ∀ x ∈ ns, LvOk x) : WT (t ++ [ns]) := by
  intro i ms q
  by_cases hi : i < t.length
  · rw [List.getElem?_append_left hi] at q
    exact h i ms q
  · rw [List.getElem?_append_right (by omega)] at q
    cases e : i - t.length with
    | zero =>
      rw [e] at q
      cases Option.some.inj q
      exact ⟨by omega, h2⟩
    | succ k => rw [e] at q; simp at q
theorem map_at {ns : List Int} {i : Nat} {x : Int} (h : ns[i]? = some x) : (ns.map V.int)[i]? = some (.int x) := by
  rw [List.getElem?_map, h]
  rfl
theorem getD_at {ns : List Int} {i : Nat} (h : i < ns.length) : ns[i]? = some (ns.getD i 0) := by
  rw [List.getD_eq_getElem?_getD, List.getElem?_eq_getElem h]
  rfl
end Ml
namespace Ml
open PySem PySem.Spec PyProof.Rows L2
theorem ixN_at {n j : Nat} (h : j < n) : ixN n (j : Int) = some j := by
  unfold ixN
  rw [if_pos (by omega), if_pos (by omega)]
  simp
end Ml

namespace Ml
open PySem PySem.Spec PyProof.Rows L2
/-- a set that has just been made -/
abbrev emptyS (w : World) : Obj := { cls := .type "set", dict := none, data := .set #[] 0 (.fresh 0 0 (!w.params.followText "set-order")) }
section
variable {P : Program} {w : World} {A : Around} {E : Value → Shared → Prop} {s : Shared}
set_option maxHeartbeats 6400000 in
/-- set(l) of a list of ints -/
theorem set_of_list {l : Addr} {vals : Array Value} (zs : List Int) {Q : Value → Shared → Prop} (calm : A.handled = none) (isl : s.heap.IsList l vals) (are : IntsAre vals.toList zs) (few : zs.length + 1 < scanBound)
    (fin : ∀ (g : Heap) (tk c : Nat), SetR w g s.heap.objs.size (fun j => decide (j ∈ zs)) c → c ≤ zs.length → (∀ b o, s.heap.get? b = some o → g.get? b = some o) → Q (.ref s.heap.objs.size) { s with heap := g, toks := tk }) :
    wpAny (model P w) A (call (.type "set") [.ref l]) Q E s := by
  have size : vals.size = zs.length := by
    have e := IntsAre.length are
    rwa [Array.length_toList] at e
  obtain ⟨_, _, mro⟩ := F.called_set.mro
  have made := F.called_set.made
  have subs := F.called_set.sub
  refine wpAny_call (codeAny_of_tree ?_)
  show wpAny _ _ (callAny (.type "set") _) _ _ _
  refine wpAny_pure ⟨Code.quiet_builtin _ (by decide +kernel), codeAny_builtin F.entry_type_call ?_⟩
  rw [Around.under_plain (weight_type_call_type "set" [.ref l] []) rfl]
  have a1 := F.called_set.notType
  have a2 := F.called_set.canCreate
  have a3 := F.typeCall_set_1 (.ref l)
  repeat (any_goals (first | assumption | wp_step))
  refine codeAny_mono (code_set_led1 (.ref l) (E := E) (Q₁ := fun v z => v = .ref s.heap.objs.size ∧ z = { s with heap := s.heap.push (emptyS w) }) ⟨rfl, rfl⟩) fun res z hz => ?_
  cases res with
  | error e => exact hz
  | ok fl =>
    cases fl with
    | ret obj =>
      obtain ⟨rfl, rfl⟩ := hz
      have there : (s.heap.push (emptyS w)).get? s.heap.objs.size = some (emptyS w) := Heap.get?_push_size _ rfl
      have typ : Shared.TypeIs { s with heap := s.heap.push (emptyS w) } (.ref s.heap.objs.size) "set" := ⟨_, there, rfl⟩
      have b1 := F.called_set.init.lookup
      have b2 := F.called_set.init.bind (.ref s.heap.objs.size)
      repeat (any_goals (first | assumption | wp_step))
      refine codeAny_mono (codeAny_call_builtin (R := wants (fun u z => u = .none ∧ ∃ g tk c, z = { s with heap := g, toks := tk } ∧ SetR w g s.heap.objs.size (fun j => decide (j ∈ zs)) c ∧ c ≤ zs.length ∧
          (∀ b o, s.heap.get? b = some o → g.get? b = some o)) E) F.called_set.init.plain F.entry_set_init (check_set_init_1 typ ?_)) fun res2 z2 hz2 => ?_
      · obtain ⟨⟨ocl, odi, oda, osl⟩, hol, hcl, nl, hda⟩ := isl
        simp only at hcl hda
        subst hcl hda
        have hol1 : (s.heap.push (emptyS w)).get? l = some { cls := .type "list", dict := odi, data := .seq vals nl, slots := osl } := Heap.get?_push_of_some _ hol
        have c1 := F.sub_list_set
        have c2 := F.sub_list_frozenset
        have c3 : (Value.type "list" == Value.type "dict") = false := by decide
        have isl1 : (s.heap.push (emptyS w)).IsList l vals := ⟨_, hol1, rfl, nl, rfl⟩
        unfold Builtin.«set.__init__» noKeywords Builtin.Frozenset.updateFrom
        generalize hPI : pyIter = PI
        wp_walk
        subst hPI
        refine wpAny_pyIter_list isl1 ?_
        refine wpAny_bind (wpAny_runValue ?_)
        have lo : l < s.heap.objs.size := Heap.lt_size hol
        have calm3 : A.in1.in1.in1.handled = none := by simp [calm]
        have n1 : l ≠ (s.heap.push (emptyS w)).objs.size := by
          rw [Heap.size_push]
          exact Nat.ne_of_lt (Nat.lt_of_lt_of_le lo (Nat.le_succ _))
        have n2 : s.heap.objs.size ∉ [(s.heap.push (emptyS w)).objs.size, l] := by
          rw [Heap.size_push]
          simp only [List.mem_cons, List.not_mem_nil, or_false, not_or]
          exact ⟨Nat.ne_of_lt (Nat.lt_succ_self _), fun e => Nat.lt_irrefl _ (e ▸ lo)⟩
        have vat : ∀ (i : Nat) (v : Value), vals[i]? = some v → ∃ k t, zs[i]? = some k ∧ v = .int k t := fun i v hv => by
          have hi : i < zs.length := by rw [← size]; exact (Array.getElem?_eq_some_iff.mp hv).1
          obtain ⟨t, e⟩ := PyProof.Rows.IntsAre.int_at are i v (by rw [Array.getElem?_toList]; exact hv)
          refine ⟨zs[i], t, List.getElem?_eq_getElem hi, ?_⟩
          rw [e, List.getD_eq_getElem?_getD, List.getElem?_eq_getElem hi] <;> rfl
        refine set_update_ints ((Walks.list calm3 _ l n1 vals).toS) s.heap.objs.size n2 zs size few vat (vals.size - 0) 0 _ (by omega) (Nat.zero_le _)
          ⟨⟨_, Heap.get?_push_size _ rfl, rfl, rfl⟩, isl1.push _⟩ ⟨0, Nat.le_refl 0, setR_new_at (Heap.get?_push_of_some _ there)⟩ ?_
        rintro ⟨g, ge, dr, tk, os⟩ c mv hc hS
        have e1 : ge = s.gens := mv.gens
        have e2 : dr = s.drawn := mv.drawn
        have e3 : os = s.os := mv.os
        subst e1 e2 e3
        show wpAny _ _ _ _ _ _
        refine wpAny_pure ?_
        show wpAny _ _ (ret Value.none) _ _ _
        rw [size] at hc
        refine wpAny_pure ⟨rfl, g, tk, c, rfl, hS, hc, fun b o e => ?_⟩
        have lb : b < s.heap.objs.size := Heap.lt_size e
        refine mv.heap b o ?_ (Heap.get?_push_of_some _ (Heap.get?_push_of_some _ e))
        rw [Heap.size_push]
        simp only [List.mem_cons, List.not_mem_nil, or_false, not_or]
        exact ⟨fun e => Nat.lt_irrefl _ (e ▸ lb), fun e => Nat.lt_irrefl _ (Nat.lt_trans lb (e ▸ Nat.lt_succ_self _))⟩
      · cases res2 with
        | error e => exact hz2
        | ok fl2 =>
          cases fl2 with
          | ret u =>
            obtain ⟨rfl, g, tk, c, rfl, hS, hc, keep⟩ := hz2
            repeat (any_goals (first | assumption | wp_step))
            exact fin _ _ _ hS hc keep
          | _ => exact hz2.elim
    | _ => exact hz.elim
end
section
variable {X : Cx}
def rSetL1 (K : PySem.W.Frag) (w : World) : List V → Hp → VK → Prop := fun vs H Q => ∃ (a : Addr) (zs : List Int), vs = [V.ref a] ∧ SqL K H a (zs.map V.int) ∧ zs.length ≤ 1000 ∧
  ∀ (p : Addr) (c : Nat), H p = none → c ≤ zs.length → Q (.ref p) (upd H p (SetO w p (fun j => decide (j ∈ zs)) c))
theorem cr_setL1 (hc : X.calm = true) : CallR X (.type "set") (rSetL1 X.K X.w) := by
  intro pins s σ H xs us Q I rxs h
  obtain ⟨a, zs, rfl, hs, few, q⟩ := h
  obtain ⟨u, rfl, ru⟩ := rxs.one
  cases ru
  obtain ⟨its, rv, ⟨o, n, ho, hcl, _, hd⟩, _⟩ := I.list hs
  refine set_of_list zs (I.ok.hd hc) ⟨o, ho, hcl, n, hd⟩ (ints_of_vals rv) (by unfold scanBound; omega) fun g tk c hS hc2 keep => ?_
  have free : H s.heap.objs.size = none := I.hok.fresh (Nat.le_refl _)
  exact ⟨.ref s.heap.objs.size, upd H s.heap.objs.size (SetO X.w s.heap.objs.size _ c), I.laid (t' := tk) keep (Nat.le_refl _) (setO_new hS), rfl, q _ c free hc2⟩
end
end Ml

namespace Ml
open PySem PySem.Spec PyProof.Rows L2
section
variable {X : Cx}
/-- t + u: some tuple of both -/
def rCatW (K : PySem.W.Frag) : R2 := fun x y H Q => ∃ a b xs ys, x = .ref a ∧ y = .ref b ∧ SqT K H a xs ∧ SqT K H b ys ∧ xs.length + ys.length ≤ sizeLine ∧ ∀ p H', Sm H H' → SqT K H' p (xs ++ ys) → Q (.ref p) H'
theorem op_catW : OpR X (binaryOp .Add) (rCatW X.K) := by
  intro pins s σ H x y v u Q I rx ry h
  obtain ⟨a, b, xs, ys, e1, e2, ha, hb, hz, q⟩ := h
  refine op_catA pins s σ H x y v u Q I rx ry ⟨a, b, xs, ys, e1, e2, ha, hb, hz, fun e => ?_, fun _ e => ?_, fun _ _ p hp => ?_⟩
  · rw [e, List.nil_append] at q
    exact q b H (Sm.refl H) hb
  · rw [e, List.append_nil] at q
    exact q a H (Sm.refl H) ha
  · exact q p _ (Sm.new hp) (SqT.of upd_same)
/-- t[lo:hi]: some tuple of these -/
def rSlW (K : PySem.W.Frag) : V → Option Int → Option Int → Hp → VK → Prop := fun x lo hi H Q => ∃ a xs, x = .ref a ∧ SqT K H a xs ∧ ∀ p H', Sm H H' → SqT K H' p (cutV xs lo hi) → Q (.ref p) H'
theorem sl_tupW : SlR X (rSlW X.K) := by
  intro pins s σ H x v vl vu lo hi sl Q I rx hs pl pu h
  obtain ⟨a, xs, e1, ha, q⟩ := h
  refine sl_tupA pins s σ H x v vl vu lo hi sl Q I rx hs pl pu ⟨a, xs, e1, ha, fun e => ?_, fun _ p hp => ?_⟩
  · refine q a H (Sm.refl H) ?_
    have e3 : cutV xs lo hi = xs := by
      unfold cutV
      rw [e.1, e.2, List.drop_zero, Nat.sub_zero, List.take_length]
    rw [e3]
    exact ha
  · exact q p _ (Sm.new hp) (SqT.of upd_same)
end
theorem cut_to (xs : List V) (k : Nat) : cutV xs none (some (k : Int)) = xs.take k := by
  unfold cutV
  rw [HT.sIx_none, HT.sIx_nat, List.drop_zero, Nat.sub_zero]
  by_cases h : k ≤ xs.length
  · rw [Nat.min_eq_left h]
  · rw [Nat.min_eq_right (by omega), List.take_length, List.take_of_length_le (by omega)]
theorem cut_from (xs : List V) (k : Nat) : cutV xs (some (k : Int)) none = xs.drop k := by
  unfold cutV
  rw [HT.sIx_none, HT.sIx_nat]
  by_cases h : k ≤ xs.length
  · rw [Nat.min_eq_left h]
    exact List.take_of_length_le (by rw [List.length_drop]; omega)
  · rw [Nat.min_eq_right (by omega), List.drop_length, List.drop_of_length_le (by omega), List.take_nil]
theorem set_parts {α : Type} (xs : List α) (i : Nat) (v : α) (h : i < xs.length) : xs.take i ++ [v] ++ xs.drop (i + 1) = xs.set i v := by
  rw [List.set_eq_take_append_cons_drop, if_pos h, List.append_assoc]
  rfl
theorem Rows.set {K : PySem.W.Frag} {H : Hp} {vs : List V} {t : List (List Int)} {i : Nat} {v : V} {ns : List Int} (h : Rows K H vs t) (q : IT K H v ns) : Rows K H (vs.set i v) (t.set i ns) := by
  refine ⟨by rw [List.length_set, List.length_set]; exact h.1, fun j u ms a b => ?_⟩
  by_cases e : i = j
  · subst e
    rw [List.getElem?_set_self'] at a b
    cases e1 : vs[i]? with
    | none => rw [e1] at a; cases a
    | some z =>
      cases e2 : t[i]? with
      | none => rw [e2] at b; cases b
      | some y =>
        rw [e1] at a
        rw [e2] at b
        cases Option.some.inj a
        cases Option.some.inj b
        exact q
  · rw [List.getElem?_set_ne e] at a b
    exact h.2 j u ms a b
theorem WT.set {t : List (List Int)} {i : Nat} {ns : List Int} (h : WT t) (h1 : ns.length = i) (h2 : ∀ x ∈ ns, LvOk x) : WT (t.set i ns) := by
  intro j ms q
  by_cases e : i = j
  · subst e
    rw [List.getElem?_set_self'] at q
    cases e1 : t[i]? with
    | none => rw [e1] at q; cases q
    | some z =>
      rw [e1] at q
      cases Option.some.inj q
      exact ⟨h1, h2⟩
  · rw [List.getElem?_set_ne e] at q
    exact h j ms q
end Ml

namespace Ml
open PySem PySem.Spec PyProof.Rows L2
/-! ### pairs of items -/
def prow (n i : Nat) : List (Nat × Nat) := (List.range (n - (i + 1))).map fun j => (i, i + 1 + j)
def ppre (n i : Nat) : List (Nat × Nat) := (List.range i).flatMap (prow n)
theorem ppre_succ (n i : Nat) : ppre n (i + 1) = ppre n i ++ prow n i := by
  unfold ppre
  rw [List.range_succ, List.flatMap_append]
  simp
theorem prow_len (n i : Nat) : (prow n i).length = n - (i + 1) := by
  unfold prow
  rw [List.length_map, List.length_range]
theorem prow_take (n i j : Nat) (h : j < n - (i + 1)) : (prow n i).take (j + 1) = (prow n i).take j ++ [(i, i + 1 + j)] := by
  have e : (prow n i)[j]? = some (i, i + 1 + j) := by
    unfold prow
    rw [List.getElem?_map, List.getElem?_range h]
    rfl
  rw [List.take_add_one, e]
  rfl
theorem ppre_len_le (n : Nat) : ∀ i, (ppre n i).length ≤ i * n
  | 0 => Nat.zero_le _
  | i + 1 => by
    have ih := ppre_len_le n i
    rw [ppre_succ, List.length_append, prow_len, Nat.succ_mul]
    omega
theorem mem_prow {n i a b : Nat} : (a, b) ∈ prow n i ↔ a = i ∧ i < b ∧ b < n := by
  unfold prow
  rw [List.mem_map]
  constructor
  · rintro ⟨j, hj, e⟩
    have h1 := List.mem_range.mp hj
    have e1 : i = a := congrArg Prod.fst e
    have e2 : i + 1 + j = b := congrArg Prod.snd e
    omega
  · rintro ⟨rfl, h1, h2⟩
    exact ⟨b - (a + 1), List.mem_range.mpr (by omega), by rw [show a + 1 + (b - (a + 1)) = b by omega]⟩
theorem mem_ppre {n i a b : Nat} : (a, b) ∈ ppre n i ↔ a < i ∧ a < b ∧ b < n := by
  unfold ppre
  rw [List.mem_flatMap]
  constructor
  · rintro ⟨j, hj, e⟩
    have h1 := List.mem_range.mp hj
    obtain ⟨rfl, h2, h3⟩ := mem_prow.mp e
    exact ⟨h1, h2, h3⟩
  · rintro ⟨h1, h2, h3⟩
    exact ⟨a, List.mem_range.mpr h1, mem_prow.mpr ⟨rfl, h2, h3⟩⟩
def Plt (p q : Nat × Nat) : Prop := p.1 < q.1 ∨ (p.1 = q.1 ∧ p.2 < q.2)
theorem prow_sorted (n i : Nat) : (prow n i).Pairwise Plt := by
  unfold prow
  rw [List.pairwise_map]
  refine List.Pairwise.imp ?_ (List.pairwise_lt_range (n := n - (i + 1)))
  intro a b h
  exact .inr ⟨rfl, by show i + 1 + a < i + 1 + b; omega⟩
theorem ppre_sorted (n : Nat) : ∀ i, (ppre n i).Pairwise Plt
  | 0 => List.Pairwise.nil
  | i + 1 => by
    rw [ppre_succ, List.pairwise_append]
    refine ⟨ppre_sorted n i, prow_sorted n i, fun p hp q hq => ?_⟩
    obtain ⟨a, b⟩ := p
    obtain ⟨a', b'⟩ := q
    have h1 := mem_ppre.mp hp
    have h2 := mem_prow.mp hq
    exact .inl (by show a < a'; omega)
/-- a place in the list of pairs -/
theorem pair_before {n i : Nat} {l : List (Nat × Nat)} (hs : l.Pairwise Plt) {p q : Nat × Nat} {k : Nat} (hp : l[k]? = some p) (hq : q ∈ l) (h : Plt q p) : ∃ m, m < k ∧ l[m]? = some q := by
  obtain ⟨m, hm, e⟩ := List.getElem_of_mem hq
  obtain ⟨hk, ek⟩ := List.getElem?_eq_some_iff.mp hp
  refine ⟨m, ?_, by rw [List.getElem?_eq_getElem hm, e]⟩
  rcases Nat.lt_trichotomy m k with z | z | z
  · exact z
  · subst z
    rw [e] at ek
    subst ek
    rcases h with h | ⟨_, h⟩ <;> exact absurd h (Nat.lt_irrefl _)
  · have w := List.pairwise_iff_getElem.mp hs k m hk hm z
    rw [ek, e] at w
    rcases h with h | ⟨h1, h2⟩ <;> rcases w with w | ⟨w1, w2⟩ <;> omega
/-- the pairs as tuples in the heap -/
def Prs (K : PySem.W.Frag) (H : Hp) (vs : List V) (ps : List (Nat × Nat)) : Prop := vs.length = ps.length ∧ ∀ (i : Nat) v p, vs[i]? = some v → ps[i]? = some p → ∃ a, v = .ref a ∧ SqT K H a [.int (p.1 : Int), .int (p.2 : Int)]
theorem Prs.nil {K : PySem.W.Frag} {H : Hp} : Prs K H [] [] := ⟨rfl, fun i v p a _ => by simp at a⟩
theorem Prs.same {K : PySem.W.Frag} {H H' : Hp} {vs : List V} {ps : List (Nat × Nat)} (h : Prs K H vs ps) (e : Sm H H') : Prs K H' vs ps :=
  ⟨h.1, fun i v p a b => let ⟨q, h1, h2⟩ := h.2 i v p a b; ⟨q, h1, e.sqT h2⟩⟩
theorem Prs.upd {K : PySem.W.Frag} {H : Hp} {p : Addr} {ys zs : List V} {vs : List V} {ps : List (Nat × Nat)} (h : Prs K H vs ps) (hp : H p = some (.lst ys)) : Prs K (L2.upd H p (.lst zs)) vs ps :=
  ⟨h.1, fun i v q a b => let ⟨r, h1, h2⟩ := h.2 i v q a b; ⟨r, h1, sqT_upd hp h2⟩⟩
theorem Prs.append {K : PySem.W.Frag} {H : Hp} {vs ws : List V} {ps qs : List (Nat × Nat)} (h : Prs K H vs ps) (g : Prs K H ws qs) : Prs K H (vs ++ ws) (ps ++ qs) := by
  refine ⟨by rw [List.length_append, List.length_append, h.1, g.1], fun i u p a b => ?_⟩
  by_cases hi : i < vs.length
  · rw [List.getElem?_append_left hi] at a
    rw [List.getElem?_append_left (by rw [← h.1]; exact hi)] at b
    exact h.2 i u p a b
  · rw [List.getElem?_append_right (by omega)] at a
    rw [List.getElem?_append_right (by rw [← h.1]; omega), ← h.1] at b
    exact g.2 _ u p a b
theorem Prs.one {K : PySem.W.Frag} {H : Hp} {a : Addr} {i j : Nat} (h : SqT K H a [.int (i : Int), .int (j : Int)]) : Prs K H [.ref a] [(i, j)] := by
  refine ⟨rfl, fun k v p e1 e2 => ?_⟩
  cases k with
  | zero =>
    cases Option.some.inj e1
    cases Option.some.inj e2
    exact ⟨a, rfl, h⟩
  | succ k => simp at e1
/-! ### three levels -/
def Ev3 (a b c : Int) : Prop := (a = b ∧ c ≤ a) ∨ (a = c ∧ b ≤ a) ∨ (b = c ∧ a ≤ b)
theorem sum_perm : ∀ {l m : List Int}, l.Perm m → l.sum = m.sum := by
  intro l m h
  induction h with
  | nil => rfl
  | cons x _ ih => rw [List.sum_cons, List.sum_cons, ih]
  | swap x y l => rw [List.sum_cons, List.sum_cons, List.sum_cons, List.sum_cons]; omega
  | trans _ _ ih1 ih2 => rw [ih1, ih2]
theorem sorted3 {a b c : Int} {ns : List Int} (hp : ns.Perm [a, b, c]) (hs : ns.Pairwise (· ≤ ·)) : ∃ x y z, ns = [x, y, z] ∧ (y = z ↔ Ev3 a b c) := by
  have hl := hp.length_eq
  match ns, hp, hs, hl with
  | [x, y, z], hp, hs, _ =>
    refine ⟨x, y, z, rfl, ?_⟩
    have m : ∀ v, v ∈ [x, y, z] ↔ v ∈ [a, b, c] := fun v => hp.mem_iff
    have mx := (m x).mp (by simp)
    have my := (m y).mp (by simp)
    have mz := (m z).mp (by simp)
    have ma := (m a).mpr (by simp)
    have mb := (m b).mpr (by simp)
    have mc := (m c).mpr (by simp)
    have hsum := sum_perm hp
    simp only [List.mem_cons, List.not_mem_nil, or_false] at mx my mz ma mb mc
    simp only [List.sum_cons, List.sum_nil] at hsum
    simp only [List.pairwise_cons, List.mem_cons, List.not_mem_nil, or_false, forall_eq_or_imp, forall_eq] at hs
    obtain ⟨⟨h1, h2⟩, h3, _⟩ := hs
    unfold Ev3
    rcases mx with rfl | rfl | rfl <;> rcases my with rfl | rfl | rfl <;> rcases mz with rfl | rfl | rfl <;> omega
theorem count_max3 {a b c m : Int} (hm : m ∈ [a, b, c]) (hx : ∀ y, y ∈ [a, b, c] → y ≤ m) : ([a, b, c].count m = 1) ↔ ¬ Ev3 a b c := by
  have ha := hx a (by simp)
  have hb := hx b (by simp)
  have hc := hx c (by simp)
  simp only [List.mem_cons, List.not_mem_nil, or_false] at hm
  simp only [List.count_cons, List.count_nil]
  unfold Ev3
  have e : ∀ x y : Int, (x == y) = decide (x = y) := fun x y => by
    by_cases h : x = y
    · rw [h, beq_self_eq_true, decide_eq_true rfl]
    · rw [decide_eq_false h]; exact beq_eq_false_iff_ne.mpr h
  simp only [e, decide_eq_true_eq]
  rcases hm with rfl | rfl | rfl <;> (split <;> split <;> split <;> omega)
/-- three items of a table -/
def Ev (t : List (List Int)) (i j k : Nat) : Prop := Ev3 (lev t i j) (lev t i k) (lev t j k)
def Triple (n i j k : Nat) : Prop := i < j ∧ j < k ∧ k < n
def Tlt (i j k i' j' k' : Nat) : Prop := i < i' ∨ (i = i' ∧ (j < j' ∨ (j = j' ∧ k < k')))
def AllEven (t : List (List Int)) : Prop := ∀ i j k, Triple t.length i j k → Ev t i j k
def FirstUneven (t : List (List Int)) (i j k : Nat) : Prop := Triple t.length i j k ∧ ¬ Ev t i j k ∧ ∀ i' j' k', Triple t.length i' j' k' → Tlt i' j' k' i j k → Ev t i' j' k'
theorem first_unique {t : List (List Int)} {i j k i' j' k' : Nat} (h : FirstUneven t i j k) (h' : FirstUneven t i' j' k') : i = i' ∧ j = j' ∧ k = k' := by
  obtain ⟨a, b, c⟩ := h
  obtain ⟨a', b', c'⟩ := h'
  have n1 : ¬ Tlt i j k i' j' k' := fun z => b (c' i j k a z)
  have n2 : ¬ Tlt i' j' k' i j k := fun z => b' (c i' j' k' a' z)
  unfold Tlt at n1 n2
  omega
theorem first_not_all {t : List (List Int)} {i j k : Nat} (h : FirstUneven t i j k) (g : AllEven t) : False := h.2.1 (g i j k h.1)
/-- what a search over pairs and thirds has seen -/
theorem first_of {t : List (List Int)} {n m a b k : Nat} (hn : n = t.length) (hp : (ppre n n)[m]? = some (a, b)) (seen : ∀ q, q < m → ∀ a' b', (ppre n n)[q]? = some (a', b') → ∀ k', b' < k' → k' < n → Ev t a' b' k')
    (seen2 : ∀ k', b < k' → k' < k → Ev t a b k') (hk : b < k ∧ k < n) (hno : ¬ Ev t a b k) : FirstUneven t a b k := by
  have hab := mem_ppre.mp (List.mem_of_getElem? hp)
  subst hn
  refine ⟨⟨hab.2.1, hk.1, hk.2⟩, hno, fun i' j' k' ht hlt => ?_⟩
  obtain ⟨t1, t2, t3⟩ := ht
  by_cases e : i' = a ∧ j' = b
  · obtain ⟨rfl, rfl⟩ := e
    refine seen2 k' t2 ?_
    unfold Tlt at hlt
    omega
  · have hlt2 : Plt (i', j') (a, b) := by
      unfold Tlt at hlt
      unfold Plt
      show i' < a ∨ (i' = a ∧ j' < b)
      omega
    obtain ⟨q, hq, eq⟩ := pair_before (n := 0) (i := 0) (ppre_sorted t.length t.length) hp (mem_ppre.mpr (show i' < t.length ∧ i' < j' ∧ j' < t.length from ⟨by omega, t1, by omega⟩)) hlt2
    exact seen q hq i' j' eq k' t2 t3
theorem all_of {t : List (List Int)} {n : Nat} (hn : n = t.length) (seen : ∀ q, q < (ppre n n).length → ∀ a' b', (ppre n n)[q]? = some (a', b') → ∀ k', b' < k' → k' < n → Ev t a' b' k') : AllEven t := by
  subst hn
  intro i j k ⟨h1, h2, h3⟩
  obtain ⟨q, hq, eq⟩ := List.getElem_of_mem (mem_ppre.mpr (show i < t.length ∧ i < j ∧ j < t.length from ⟨by omega, h1, by omega⟩))
  exact seen q hq i j (by rw [List.getElem?_eq_getElem hq, eq]) k h2 h3
end Ml

namespace Ml
open PySem PySem.Spec PyProof.Rows L2
/-! ### data at any depth -/
mutual
theorem Dp.same {K : PySem.W.Frag} {H H' : Hp} (e : Sm H H') : ∀ (d : PyData) (v : V), Dp K H v d → Dp K H' v d
  | .none, _, h => by cases h; exact .non
  | .bool b, _, h => by cases h; exact .bl b
  | .int i, _, h => by cases h; exact .int i
  | .str x, _, h => by cases h; exact .str x
  | .list ds, _, h => by
    cases h with
    | lst hs ha => exact .lst (e.sqL hs) (Dp.sameAll e ds _ ha)
  | .tuple ds, _, h => by
    cases h with
    | tup hs ha => exact .tup (e.sqT hs) (Dp.sameAll e ds _ ha)
  | .dict _, _, h => by cases h
theorem Dp.sameAll {K : PySem.W.Frag} {H H' : Hp} (e : Sm H H') : ∀ (ds : List PyData) (vs : List V), DpAll K H vs ds → DpAll K H' vs ds
  | [], _, h => by cases h; exact .nil
  | d :: ds, _, h => by
    cases h with
    | cons h1 h2 => exact .cons (Dp.same e d _ h1) (Dp.sameAll e ds _ h2)
end
theorem dp_len {K : PySem.W.Frag} {H : Hp} : ∀ {vs : List V} {ds : List PyData}, DpAll K H vs ds → vs.length = ds.length
  | [], _, h => by cases h; rfl
  | v :: vs, _, h => by
    cases h with
    | cons _ h2 => rw [List.length_cons, List.length_cons, dp_len h2]
theorem dp_at {K : PySem.W.Frag} {H : Hp} : ∀ {vs : List V} {ds : List PyData}, DpAll K H vs ds → ∀ {i : Nat} {v : V}, vs[i]? = some v → ∃ d, ds[i]? = some d ∧ Dp K H v d
  | [], _, h, i, v, e => by simp at e
  | u :: vs, _, h, i, v, e => by
    cases h with
    | cons h1 h2 =>
      cases i with
      | zero => cases Option.some.inj e; exact ⟨_, rfl, h1⟩
      | succ i => exact dp_at h2 (i := i) (by simpa using e)
theorem dp_ints {K : PySem.W.Frag} {H : Hp} : ∀ ns : List Int, DpAll K H (ns.map V.int) (ns.map PyData.int)
  | [] => .nil
  | n :: ns => .cons (.int n) (dp_ints ns)
/-- what may be compared: no lists, not too deep -/
def okD : Nat → PyData → Prop
  | _, .none => True
  | _, .bool _ => True
  | _, .int _ => True
  | _, .str _ => True
  | n + 1, .tuple ds => ds.length ≤ 1000 ∧ ∀ d ∈ ds, okD n d
  | _, _ => False
theorem okD_int (n : Nat) (i : Int) : okD n (.int i) := by cases n <;> exact trivial
theorem okD_none (n : Nat) : okD n .none := by cases n <;> exact trivial
theorem okD_bool (n : Nat) (b : Bool) : okD n (.bool b) := by cases n <;> exact trivial
theorem okD_ints (n : Nat) (ns : List Int) (h : ns.length ≤ 1000) : okD (n + 1) (.tuple (ns.map PyData.int)) := by
  refine ⟨by rw [List.length_map]; exact h, fun d hd => ?_⟩
  obtain ⟨i, _, rfl⟩ := List.mem_map.mp hd
  exact okD_int n i
theorem ty_tup {K : PySem.W.Frag} {H : Hp} {a : Addr} {xs : List V} (h : SqT K H a xs) : TyX K H (.ref a) (.type "tuple") := by
  rcases h with (h | ⟨o, h⟩) | ⟨o, its, n, h1, h2, _⟩
  · exact .base (.tup h)
  · exact .fTuple h
  · exact .kTuple h1 h2
def tyN : PyData → String
  | .none => "NoneType"
  | .bool _ => "bool"
  | .int _ => "int"
  | .str _ => "str"
  | .tuple _ => "tuple"
  | .list _ => "list"
  | .dict _ => "dict"
theorem dp_ty {K : PySem.W.Frag} {H : Hp} {n : Nat} {d : PyData} {v : V} (h : Dp K H v d) (ok : okD n d) : TyX K H v (.type (tyN d)) := by
  cases h with
  | non => exact .base .non
  | bl b => exact .base (.bl b)
  | int i => exact .base (.int i)
  | str x => exact .base (.str x)
  | lst hs ha => cases n <;> exact ok.elim
  | tup hs ha => exact ty_tup hs
end Ml

namespace Ml
open PySem PySem.Spec PyProof.Rows L2
/-! ### lists of ints compared -/
theorem eqv_ints : ∀ (a b : List Int), PyData.eqvAll (a.map PyData.int) (b.map PyData.int) = decide (a = b)
  | [], [] => by simp [PyData.eqvAll]
  | [], b :: m => by simp [PyData.eqvAll]
  | a :: l, [] => by simp [PyData.eqvAll]
  | a :: l, b :: m => by
    have ih := eqv_ints l m
    simp only [List.map_cons, PyData.eqvAll, PyData.eqv, ih]
    by_cases h : a = b
    · subst h
      by_cases h2 : l = m
      · subst h2; simp
      · simp [h2]
    · simp [h]
theorem eqv_list (a b : List Int) : PyData.eqv (.list (a.map PyData.int)) (.list (b.map PyData.int)) = decide (a = b) := by
  simp only [PyData.eqv, eqv_ints]
theorem eqv_tup (a b : List Int) : PyData.eqv (.tuple (a.map PyData.int)) (.tuple (b.map PyData.int)) = decide (a = b) := by
  simp only [PyData.eqv, eqv_ints]
theorem lay_ints : ∀ ns : List Int, PyData.canLayAll0 (ns.map PyData.int) = true
  | [] => by simp [PyData.canLayAll0]
  | n :: ns => by simp [PyData.canLayAll0, PyData.canLay0, lay_ints ns]
theorem deep_ints : ∀ ns : List Int, PyData.depthAll (ns.map PyData.int) = 0
  | [] => by simp [PyData.depthAll]
  | n :: ns => by simp [PyData.depthAll, PyData.depth, deep_ints ns]
theorem shaped_list (ns : List Int) : SeqAt.shaped (.list (ns.map PyData.int)) = true := by
  show ((PyData.list (ns.map PyData.int)).canLay0 && decide ((PyData.list (ns.map PyData.int)).depth ≤ 64)) = true
  simp [PyData.canLay0, PyData.depth, lay_ints ns, deep_ints ns]
theorem shaped_tup (ns : List Int) : SeqAt.shaped (.tuple (ns.map PyData.int)) = true := by
  show ((PyData.tuple (ns.map PyData.int)).canLay0 && decide ((PyData.tuple (ns.map PyData.int)).depth ≤ 64)) = true
  simp [PyData.canLay0, PyData.depth, lay_ints ns, deep_ints ns]
theorem dp_list {K : PySem.W.Frag} {H : Hp} {p : Addr} {ns : List Int} (h : H p = some (.lst (ns.map V.int))) : Dp K H (.ref p) (.list (ns.map PyData.int)) := .lst (SqL.of h) (dp_ints ns)
theorem dp_listS {K : PySem.W.Frag} {H : Hp} {p : Addr} {ns : List Int} (h : SqL K H p (ns.map V.int)) : Dp K H (.ref p) (.list (ns.map PyData.int)) := .lst h (dp_ints ns)
theorem dp_tup {K : PySem.W.Frag} {H : Hp} {p : Addr} {ns : List Int} (h : SqT K H p (ns.map V.int)) : Dp K H (.ref p) (.tuple (ns.map PyData.int)) := .tup h (dp_ints ns)
/-! ### what being nested means -/
def Ultra (t : List (List Int)) : Prop := ∀ i j k, i < t.length → j < t.length → k < t.length → lev t i k ≤ max (lev t i j) (lev t j k)
theorem lev_self (t : List (List Int)) (i : Nat) : lev t i i = 0 := by
  unfold lev
  rw [if_pos rfl]
theorem lev_nn {t : List (List Int)} (h : WT t) {i j : Nat} (hi : i < t.length) (hj : j < t.length) : 0 ≤ lev t i j := by
  by_cases e : i = j
  · rw [e, lev_self]
    exact Int.le_refl 0
  · have := (h.lev hi hj e).1
    omega
theorem Ev.sym {t : List (List Int)} {i j k : Nat} (h : Ev t i j k) : lev t i k ≤ max (lev t i j) (lev t j k) ∧ lev t i j ≤ max (lev t i k) (lev t j k) ∧ lev t j k ≤ max (lev t i j) (lev t i k) := by
  unfold Ev Ev3 at h
  omega
theorem ultra_of_even {t : List (List Int)} (hW : WT t) (h : AllEven t) : Ultra t := by
  intro i j k hi hj hk
  have n1 := lev_nn hW hi hj
  have n2 := lev_nn hW hj hk
  by_cases e1 : i = j
  · subst e1
    rw [lev_self]
    omega
  by_cases e2 : j = k
  · subst e2
    rw [lev_self]
    omega
  by_cases e3 : i = k
  · subst e3
    rw [lev_self]
    omega
  have c1 := lev_comm t j i
  have c2 := lev_comm t k j
  have c3 := lev_comm t k i
  have key : ∀ a b c, Triple t.length a b c → _ := fun a b c hT => (h a b c hT).sym
  unfold Triple at key
  rcases Nat.lt_or_gt_of_ne e1 with a | a <;> rcases Nat.lt_or_gt_of_ne e2 with b | b <;> rcases Nat.lt_or_gt_of_ne e3 with c | c
  · have := key i j k ⟨a, b, hk⟩; omega
  · omega
  · have := key i k j ⟨c, b, hj⟩; omega
  · have := key k i j ⟨c, a, hj⟩; omega
  · have := key j i k ⟨a, c, hk⟩; omega
  · have := key j k i ⟨b, c, hi⟩; omega
  · omega
  · have := key k j i ⟨b, a, hi⟩; omega
theorem even_of_ultra {t : List (List Int)} (h : Ultra t) : AllEven t := by
  intro i j k ⟨h1, h2, h3⟩
  have a := h i j k (by omega) (by omega) h3
  have b := h i k j (by omega) h3 (by omega)
  have c := h j i k (by omega) (by omega) h3
  rw [lev_comm t k j] at b
  rw [lev_comm t j i] at c
  unfold Ev Ev3
  omega
/-- at a level all that is near is near alike -/
def TransAt (t : List (List Int)) (lv : Int) : Prop := ∀ i j k, i < t.length → j < t.length → k < t.length → lev t i j ≤ lv → (lev t i k ≤ lv ↔ lev t j k ≤ lv)
theorem trans_of_ultra {t : List (List Int)} (h : Ultra t) (lv : Int) : TransAt t lv := by
  intro i j k hi hj hk hl
  have a := h i j k hi hj hk
  have b := h j i k hj hi hk
  rw [lev_comm t j i] at b
  omega
theorem lev_mem {t : List (List Int)} (hW : WT t) {i j : Nat} (hi : i < t.length) (hj : j < t.length) (hij : i ≠ j) : lev t i j ∈ t.flatten := by
  have hm : max i j < t.length := by omega
  obtain ⟨h1, h2⟩ := hW.row hm
  have hl : min i j < (t.getD (max i j) []).length := by omega
  unfold lev
  rw [if_neg hij]
  refine List.mem_flatten.mpr ⟨t.getD (max i j) [], ?_, ?_⟩
  · rw [List.getD_eq_getElem?_getD, List.getElem?_eq_getElem hm]
    exact List.getElem_mem hm
  · exact List.mem_of_getElem? (getD_at hl)
theorem ultra_of_trans {t : List (List Int)} (hW : WT t) (h : ∀ lv ∈ t.flatten, TransAt t lv) : Ultra t := by
  intro i j k hi hj hk
  have n1 := lev_nn hW hi hj
  have n2 := lev_nn hW hj hk
  by_cases e1 : i = j
  · subst e1; rw [lev_self]; omega
  by_cases e2 : j = k
  · subst e2; rw [lev_self]; omega
  rcases Int.le_total (lev t i j) (lev t j k) with z | z
  · have a := h _ (lev_mem hW hj hk e2) i j k hi hj hk z
    have := a.mpr (Int.le_refl _)
    omega
  · have a := h _ (lev_mem hW hi hj e1) i j k hi hj hk (Int.le_refl _)
    have := a.mpr z
    omega
def FarAlike (t : List (List Int)) : Prop := ∀ i j k, i < j → j < t.length → k < t.length → lev t i j < max (lev t i k) (lev t j k) → lev t i k = lev t j k
theorem far_of_ultra {t : List (List Int)} (h : Ultra t) : FarAlike t := by
  intro i j k hij hj hk hl
  have a := h i j k (by omega) hj hk
  have b := h j i k hj (by omega) hk
  rw [lev_comm t j i] at b
  omega
theorem even_of_far {t : List (List Int)} (h : FarAlike t) : AllEven t := by
  intro i j k ⟨h1, h2, h3⟩
  have a := h i j k h1 (by omega) h3
  have b := h i k j (by omega) h3 (by omega)
  have c := h j k i h2 h3 (by omega)
  rw [lev_comm t k j] at b
  rw [lev_comm t j i, lev_comm t k i] at c
  unfold Ev Ev3
  omega
end Ml

/-! enumerate(tuple) -/
namespace Ml
open PySem PySem.Spec PyProof.Rows L2
open PySem.AutoSeq1 (wpAny_loadPart')
theorem draws_tuple {prog : Program} {w : World} {A : Around} (calm : A.handled = none) (it l : Addr) (ne : l ≠ it) (vals : Array Value) :
    Draws prog w A it [it, l] vals.size (fun i v => vals[i]? = some v) (fun i h => h.IsTupleIter it l i ∧ h.IsTuple l vals) where
  live := fun _ _ st => by
    obtain ⟨⟨o, ho, _⟩, _⟩ := st
    exact ⟨o, ho⟩
  frame := fun _ _ _ st hk => ⟨st.1.at fun o e => hk it (by simp) o e, st.2.at fun o e => hk l (by simp) o e⟩
  item := fun i s Q E hi st hQ => by
    refine RZ.nextOf_tuple_item st.1 st.2 (x := vals[i]) (by simp [hi]) fun g it' sb => ?_
    exact hQ _ g s.toks (by simp [hi]) ⟨it', st.2.extBut sb.extBut ne⟩ sb
  done := fun s Q E st hE => RZ.nextOf_tuple_end calm st.1 st.2 (by simp) hE
abbrev tupIt (l : Addr) : Obj := { cls := .type "tuple_iterator", data := .fields #[.ref l, .int 0 0] }
abbrev enumOf (it : Addr) : Obj := { cls := .type "enumerate", data := .fields #[.none, .bool false, .ref it, rawInt 0, .none, .none] }
theorem meets_enum_tup (l : Addr) (vals : Array Value) (n : Nat) (dct : Option Addr) (sl : Array (Option Value)) :
    Meets (Builtin.«enumerate.__new__» ⟨[.type "enumerate", .ref l], []⟩) (fun _ R s => s.heap.get? l = some { cls := .type "tuple", dict := dct, data := .seq vals n, slots := sl } ∧
      R (.ok (.ret (.ref (s.heap.push (tupIt l)).objs.size))) { s with heap := (s.heap.push (tupIt l)).push (enumOf s.heap.objs.size) }) :=
  .of_wp fun prog w A R s h => by
    obtain ⟨hp, g, d, tk, os⟩ := s
    obtain ⟨hl, h⟩ := h
    have sub := sub_enumerate
    have isT : Heap.IsTuple (Shared.heap ⟨hp, g, d, tk, os⟩) l vals := ⟨_, hl, rfl, n, rfl⟩
    wp_walk using wpAny_loadPart' hl
    refine wpAny_stack_any fun st => wpAny_pure ?_
    split
    · rename_i c _ _ _ _ _
      cases (c == Value.type "enumerate")
      · wp_walk using wpAny_loadPart' hl, wpAny_pyIter_tuple isT
        exact ⟨_, rfl, h⟩
      · wp_walk using wpAny_loadPart' hl, wpAny_pyIter_tuple isT
        exact ⟨_, rfl, h⟩
    · wp_walk using wpAny_loadPart' hl, wpAny_pyIter_tuple isT
      exact ⟨_, rfl, h⟩
section
variable {prog : Program} {w : World} {A : Around} {E : Value → Shared → Prop} {s : Shared}
theorem call_enum_tup {l : Addr} {vals : Array Value} {Q : Value → Shared → Prop} (isT : s.heap.IsTuple l vals)
    (h : ∀ g, IsEnum g (s.heap.objs.size + 1) s.heap.objs.size 0 .none → g.IsTupleIter s.heap.objs.size l 0 → (∀ b o, s.heap.get? b = some o → g.get? b = some o) → Q (.ref (s.heap.objs.size + 1)) { s with heap := g }) :
    wpAny (model prog w) A (call (.type "enumerate") [.ref l]) Q E s := by
  obtain ⟨⟨c, dct, dt, sl⟩, hl, hc, n, hd⟩ := isT
  simp only at hc hd
  subst hc hd
  refine callType_new F.called_enumerate (by decide) (F.typeCall_enumerate_1 _) (F.newCall_enumerate_1 _) (fun obj => F.args_object_init_2 obj _) F.entry_enumerate_new (meets_enum_tup l vals n dct sl) ⟨hl, ?_⟩
  have hz : (s.heap.push (tupIt l)).objs.size = s.heap.objs.size + 1 := Heap.size_push ..
  show _ ∧ _
  rw [hz]
  have he : IsEnum ((s.heap.push (tupIt l)).push (enumOf s.heap.objs.size)) (s.heap.objs.size + 1) s.heap.objs.size 0 .none := by
    have e := Heap.get?_push_size (s.heap.push (tupIt l)) (o := enumOf s.heap.objs.size) rfl
    rwa [hz] at e
  exact ⟨⟨_, he, rfl⟩, h _ he ⟨_, Heap.get?_push_of_some _ (Heap.get?_push_size _ rfl), rfl, rfl⟩ fun b o e => Heap.get?_push_of_some _ (Heap.get?_push_of_some _ e)⟩
end
/-- the tuple at a, each item in a new pair with its place -/
def Iet (K : PySem.W.Frag) (a : Addr) : It :=
  ⟨fun i H => ∃ (xs : List V) (x : V), SqT K H a xs ∧ xs[i]? = some x, fun i H v H' => ∃ T x, v = .ref T ∧ H T = none ∧ H' = upd H T (.tup [.int (i : Nat), x]) ∧ ∀ xs, SqT K H a xs → xs[i]? = some x, fun i H => ∃ xs : List V, SqT K H a xs ∧ i = xs.length⟩
theorem turn_enumT {P : Program} {w : World} {K : PySem.W.Frag} {elts : List Expr} {kk : Nat} {tpos : Pos} (a e it : Addr) (nae : a ≠ e) (nai : a ≠ it) :
    Turn P w K (.Tuple elts kk tpos) (Iet K a) [e, it] e (fun i h => (∃ old, IsEnum h e it ((i : Nat) : Int) old) ∧ h.IsTupleIter it a i ∧ e ≠ it) where
  mem := by simp
  obj := fun i h st b hb => by
    obtain ⟨⟨old, he⟩, ⟨o, ho, _, hd⟩, _⟩ := st
    rcases List.mem_cons.mp hb with z | z
    · rw [z]; exact ⟨_, he, fun v q => nomatch q⟩
    · rw [List.mem_singleton.mp z]; exact ⟨o, ho, fun v q => by rw [hd] at q; cases q⟩
  keep := fun i h h' st k => by
    obtain ⟨⟨old, he⟩, hi, ne⟩ := st
    exact ⟨⟨old, k e (by simp) _ he⟩, hi.at fun o q => k it (by simp) o q, ne⟩
  item := by
    intro X hP hw hK calm i pins s σ H E I hf st hg
    subst hP hw hK
    obtain ⟨⟨old, he⟩, hit, ne⟩ := st
    obtain ⟨xs, x, hq, hx⟩ := hg
    obtain ⟨its, rv, isT, _⟩ := I.tuple hq
    obtain ⟨u, hu, ru⟩ := rv.get hx
    have hel : e < s.heap.objs.size := Heap.lt_size he
    have hil : it < s.heap.objs.size := by obtain ⟨_, q, _⟩ := hit; exact Heap.lt_size q
    have lt : i < its.toArray.size := by
      rw [List.size_toArray]
      exact (List.getElem?_eq_some_iff.mp hu).1
    have hA : X.A.in1.handled = none := I.ok.hd calm
    refine wpAny_pyNext_enum_itemD (draws_tuple hA it a nai its.toArray) he ⟨hit, isT⟩ lt ne (by simp only [List.mem_cons, List.not_mem_nil, or_false, not_or]; exact ⟨ne, nae.symm⟩) fun y g tk hy ho st' hT hsz hk => ?_
    obtain rfl : y = u := by
      have z : its[i]? = some y := by simpa using hy
      exact Option.some.inj (z.symm.trans hu)
    refine ⟨_, rfl, wpAny_letOwnedTupleGo_enum (s := { s with heap := g, toks := tk + 1 }) ho fun g2 he' sb => ?_⟩
    have hT2 : g2.get? s.heap.objs.size = some { cls := .type "tuple", data := .seq #[.int i tk, y] } := (sb.2 _ (Nat.ne_of_gt hel)).trans hT
    have new : ObjOk X.prog X.w (upd H s.heap.objs.size (.tup [.int (i : Nat), x])) g2 s.heap.objs.size (.tup [.int (i : Nat), x]) :=
      ⟨by show 2 ≤ sizeLine; decide, [.int i tk, y], .cons ⟨_, rfl⟩ (.cons ru .nil), ⟨_, hT2, rfl, _, rfl⟩⟩
    have I1 : Inv X pins σ (upd H s.heap.objs.size (.tup [.int (i : Nat), x])) { s with heap := g2, toks := tk + 1 } :=
      I.turnedNew (ch := [e, it]) (fun b ob hb q => (sb.2 b (fun z => hb (by simp [z]))).trans (hk b ob (fun z => hb (by simp [z])) (fun z => hb (by simp [z])) q)) hf (Nat.le_refl _) new
    refine ⟨.ref s.heap.objs.size, _, I1, rfl, ⟨_, x, rfl, I.hok.fresh (Nat.le_refl _), rfl, fun ys hy => by rw [I.tuple_inj hy hq]; exact hx⟩, ⟨⟨y, ?_⟩, st'.1.at fun o q => (sb.2 it (Ne.symm ne)).trans q, ne⟩, fun b hb => ?_⟩
    · rw [show ((i + 1 : Nat) : Int) = (i : Int) + 1 by omega]
      exact he'
    · have lb : b < s.heap.objs.size := by
        rcases List.mem_cons.mp hb with z | z
        · rw [z]; exact hel
        · rw [List.mem_singleton.mp z]; exact hil
      rw [upd_ne (Nat.ne_of_lt lb)]
      exact (hf b hb).1
  done := by
    intro X hP hw hK calm i pins s σ H E I hf st hg
    subst hP hw hK
    obtain ⟨⟨old, he⟩, hit, ne⟩ := st
    obtain ⟨xs, hq, hx⟩ := hg
    obtain ⟨its, rv, isT, _⟩ := I.tuple hq
    obtain ⟨f0, f1, f2, f3, f4, f5⟩ := hf it (by simp)
    have hl := rv.length
    have hA : X.A.in1.handled = none := I.ok.hd calm
    have hn : its.toArray.size = i := by rw [List.size_toArray, ← hl]; exact hx.symm
    refine wpAny_pyNext_enum_endD (draws_tuple hA it a nai its.toArray) he ⟨by rw [hn]; exact hit, isT⟩ fun g eb => ⟨rfl, I.turned (t' := s.toks) (fun b o hb q => eb b o hb q) f0 f1 f3 f4 f5⟩
  self := fun A i s Q E st h => by
    obtain ⟨⟨_, he⟩, _⟩ := st
    exact wpAny_pyIter_enum he h
def iEnumT (K : PySem.W.Frag) (ta : TA) : TI := fun σ H R => ta σ H fun vs H1 => ∃ a xs, vs = [.ref a] ∧ SqT K H1 a xs ∧ R (Iet K a) H1
theorem pi_enumT {X : Cx} {e : Expr} {ta : TA} {p pos tpos : Pos} {elts : List Expr} {kk : Nat} (hg : Gl X "enumerate") (hm : X.mg "enumerate" = none) (ha : PA X [e] ta) (hs : starEach [e] X.env = [(false, eval e X.env)] := by rfl) :
    PI X (.Tuple elts kk tpos) (.Call (.Name "enumerate" p) [e] [] pos) (iEnumT X.K ta) := by
  refine ⟨fun pins s σ H R I h => ?_⟩
  refine Call_ (ld_blt I hg hm boot_enumerate (PyProof.Rows.callWith_type1 (thn (ha.run pos pins s σ H _ I h) fun us z ⟨vs, H1, I1, r1, q1⟩ => ?_) hs rfl))
  obtain ⟨a, xs, rfl, hq, q⟩ := q1
  obtain ⟨u, rfl, ru⟩ := r1.one
  cases ru
  obtain ⟨its, rv, isT, _⟩ := I1.tuple hq
  have la : a < z.heap.objs.size := by obtain ⟨_, ho, _⟩ := isT; exact Heap.lt_size ho
  refine call_enum_tup isT fun g he hit hk => wpAny_pyIter_enum he ?_
  have I2 : Inv X pins σ H1 { z with heap := g } := I1.kept (t' := z.toks) hk
  refine ⟨z.heap.objs.size + 1, [z.heap.objs.size + 1, z.heap.objs.size], _, _, H1, rfl, I2, turn_enumT a (z.heap.objs.size + 1) z.heap.objs.size (Nat.ne_of_lt (Nat.lt_succ_of_lt la)) (Nat.ne_of_lt la), ⟨⟨.none, he⟩, hit, Nat.succ_ne_self _⟩, fun b hb => ?_, q⟩
  have le : z.heap.objs.size ≤ b := by
    rcases List.mem_cons.mp hb with e1 | e1
    · rw [e1]; exact Nat.le_succ _
    · rw [List.mem_singleton.mp e1]; exact Nat.le_refl _
  exact I1.fpOk le (I1.hok.fresh le)
/-- a loop over enumerate(tuple) -/
theorem for_enumT {K : PySem.W.Frag} {a : Addr} {xs : List V} {g : TG} {tb : TS} {D : Ends} {σ : L2.St} {H : Hp} (Pv : Nat → L2.St → Hp → Prop) (h0 : Pv 0 σ H) (hq : ∀ i σ H, Pv i σ H → SqT K H a xs)
    (hs : ∀ (i : Nat) (x : V) (T : Addr) (σ : L2.St) (H : Hp), xs[i]? = some x → Pv i σ H → H T = none → g (.ref T) σ (upd H T (.tup [.int (i : Nat), x])) fun σ2 H2 => tb { D with nx := Pv (i + 1), ct := Pv (i + 1), bk := D.nx } σ2 H2) (hd : ∀ σ H, Pv xs.length σ H → D.nx σ H) :
    ∃ W : Nat → Nat → L2.St → Hp → Prop, (∃ m, W 0 m σ H) ∧ ∀ i m σ H, W i m σ H →
      ((Iet K a).stop i H ∧ D.nx σ H) ∨ ((Iet K a).go i H ∧ ∃ N : L2.St → Hp → Prop, (∀ σ' H', N σ' H' → ∃ m', m' < m ∧ W (i + 1) m' σ' H') ∧ ∀ v H', (Iet K a).yld i H v H' → g v σ H' fun σ2 H2 => tb { D with nx := N, ct := N, bk := D.nx } σ2 H2) := by
  refine ⟨fun i m σ H => m = xs.length - i ∧ i ≤ xs.length ∧ Pv i σ H, ⟨xs.length, rfl, Nat.zero_le _, h0⟩, ?_⟩
  rintro i m σ H ⟨rfl, hi, p⟩
  have q := hq i σ H p
  by_cases lt : i < xs.length
  · refine .inr ⟨⟨xs, _, q, List.getElem?_eq_getElem lt⟩, Pv (i + 1), fun σ' H' p' => ⟨xs.length - (i + 1), by omega, rfl, lt, p'⟩, fun v H' y => ?_⟩
    obtain ⟨T, x, rfl, hT, rfl, f⟩ := y
    exact hs i x T σ H (f xs q) p hT
  · have e : i = xs.length := by omega
    subst e
    exact .inl ⟨⟨xs, q, rfl⟩, hd σ H p⟩
end Ml

/-! sorted of a set of ints of any size; a set of ints by two clauses without tests -/
namespace Ml
open PySem PySem.Spec PyProof.Rows L2
section
variable {P : Program} {w : World} {A : Around} {E : Value → Shared → Prop} {s : Shared} {a : Addr}
theorem sort_set {S : Int → Bool} {n : Nat} {Q : Value → Shared → Prop} (R : SetR w s.heap a S n) (calm : A.handled = none)
    (fin : ∀ z p (out : List Value) (c : Nat) (ns : List Int), (∀ b o, s.heap.get? b = some o → z.heap.get? b = some o) → z.gens = s.gens → z.os = s.os → s.heap.objs.size ≤ p →
      z.heap.get? p = some (seqObj "list" out.toArray c) → IntsAre out ns → ns.Pairwise (· < ·) → (∀ k, k ∈ ns ↔ S k = true) → ns.length = n → Q (.ref p) z) :
    wpAny (model P w) A (call (.builtin "sorted") [.ref a]) Q E s := by
  obtain ⟨o, es, ep, t, ho, ex, hd, good, nod, mem, few, fits, size, ris, led⟩ := R
  refine Calls.call_function_entry kind_sorted plain_sorted entry_sorted (args_sorted1 _) ?_
  unfold Builtin.«sorted»
  refine wpAny_bind (m := checkCount "sorted" 1 1 _) (wpAny_pure ?_)
  refine wpAny_bind (collect_set (A := A.in1) calm ⟨o, ho, ex.1, hd⟩ fits few ris led fun z1 vs keep le gens os perm => ?_)
  have lv : vs.length = n := by
    rw [perm.length_eq, List.length_map, Array.length_toList]
    exact size
  have isI : IntsAre vs (vs.map Builtin.Re.reRawOf) := ints_of vs fun v hv => by
    obtain ⟨e, he, q⟩ := List.mem_map.mp (perm.mem_iff.mp hv)
    obtain ⟨k, tk, h1, _⟩ := good e he
    exact ⟨k, tk, by rw [← q]; exact h1⟩
  have pk : (vs.map Builtin.Re.reRawOf).Perm (es.toList.map keyOf) := by
    have q := perm.map Builtin.Re.reRawOf
    rwa [List.map_map] at q
  have small : vs.length ≤ sizeLine := by
    rw [lv, sizeLine_eq, ← size]
    unfold scanBound at few
    omega
  refine wpAny_bind (wpAny_newList ?_ small)
  have there : (z1.heap.push (seqObj "list" vs.toArray 0)).get? z1.heap.objs.size = some (seqObj "list" vs.toArray 0) := Heap.get?_push_size _ rfl
  refine wpAny_bind (wpAny_holding (wpAny_call_entry slot_list_sort ⟨_, there, rfl⟩ entry_list_sort (SrtO.list_sort_ord SrtO.swo_int there small (fun h2 => SrtO.ints_sortable isI h2) fun out s1 s2 => ⟨_, rfl, ?_⟩) (args_list_sort _)))
  obtain ⟨k1, k2, k3⟩ := SrtO.ints_out isI s1 s2
  obtain ⟨c, hc⟩ := sortedHeap_at (vs := vs) (out := out.toArray) there
  have pn : (out.map SrtO.iv).Perm (es.toList.map keyOf) := k2.trans pk
  refine wpAny_pure ⟨_, rfl, fin _ z1.heap.objs.size out c (out.map SrtO.iv) (fun b u e => ?_) gens os le hc k1 (lt_of_le_nodup _ k3 (pn.nodup_iff.mpr nod)) (fun k => by rw [pn.mem_iff, ← mem k]) ?_⟩
  · have q := keep b u e
    have lt := Heap.lt_size q
    show (sortedHeap (z1.heap.push (seqObj "list" vs.toArray 0)) z1.heap.objs.size vs out.toArray).get? b = some u
    rw [sortedHeap_old (Nat.ne_of_lt lt) (by rw [size_push']; exact Nat.lt_succ_of_lt lt)]
    exact Heap.get?_push_of_some _ q
  · rw [pn.length_eq, List.length_map, Array.length_toList]
    exact size
end
section
variable {X : Cx}
def rSortS (w : World) : List V → Hp → VK → Prop := fun vs H Q => ∃ (a : Addr) (S : Int → Bool) (n : Nat), vs = [V.ref a] ∧ H a = some (SetO w a S n) ∧ n ≤ 2000 ∧
  ∀ (ns : List Int) (p : Addr), ns.Pairwise (· < ·) → (∀ k : Int, k ∈ ns ↔ S k = true) → ns.length = n → H p = none → Q (.ref p) (upd H p (.lst (ns.map V.int)))
theorem cr_sortS (hc : X.calm = true) : CallR X (.builtin "sorted") (rSortS X.w) := by
  intro pins s σ H vs us Q I rv h
  obtain ⟨a, S, n, rfl, ha, few, q⟩ := h
  rw [Vals.ref1 rv]
  refine sort_set (setO_get I ha) (I.ok.hd hc) fun z p out c ns keep gens os le hp are srt mem len => ?_
  have free : H p = none := I.hok.fresh le
  have short : (ns.map V.int).length ≤ sizeLine := by
    rw [List.length_map, len, sizeLine_eq]
    omega
  have J : Inv X pins σ (upd H p (.lst (ns.map V.int))) { s with heap := z.heap, gens := z.gens, drawn := z.drawn, toks := z.toks } :=
    I.call (ch := []) (Un.laid keep le free) (I.hok.laid keep le ⟨short, out, c, vals_of_ints are, hp⟩) (by rw [gens]; exact I.bare) (fun _ e => nomatch e)
  obtain ⟨zh, zg, zd, zt, zo⟩ := z
  have e : zo = s.os := os
  subst e
  exact ⟨.ref p, _, J, rfl, q ns p srt mem len free⟩
/-- one more int into a set -/
theorem put_int {pins : List (Addr × Obj)} {σ : L2.St} {H : Hp} {s : Shared} {E : Value → Shared → Prop} {D : Addr} {S : Int → Bool} {n : Nat} {y : Int} {t : Tok} {Q : Value → Shared → Prop} (I : Inv X pins σ H s) (hD : H D = some (SetO X.w D S n)) (room : n + 1 < scanBound)
    (h : ∀ z, Inv X pins σ (upd H D (SetO X.w D (fun j => S j || decide (j = y)) (if S y = true then n else n + 1))) z → Q .none z) : wpAny (model X.prog X.w) X.A (call (.builtin "set.add") [.ref D, .int y t]) Q E s := by
  refine setR_add (setO_get I hD) room fun g sb new => h _ (I.write (e := D) (t' := s.toks + 1) (by rw [hD]; trivial) (.inl rfl) (fun b u hb hu => (sb.2 b hb).trans hu) ?_ (setO_new new))
  obtain ⟨o, _, _, _, ho, _⟩ := new
  exact ⟨o, ho⟩
end
/-! ### the two clauses at the machine -/
abbrev sc2 (elt t0 i0 t1 i1 : Expr) (scope : Scope) (pos : Pos) : Expr := .SetComp elt [⟨t0, i0, [], 0⟩, ⟨t1, i1, [], 0⟩] scope pos
section
variable {prog : Program} {w : World} {A : Around} {R : Result → Shared → Prop} {s : Shared} {elt t0 i0 t1 i1 : Expr} {scope : Scope} {pos : Pos} {it acc : Value} {env : Env}
theorem sc2_outer : compTurn (sc2 elt t0 i0 t1 i1 scope pos) 0 it acc env = (do
      standAt i0.pos
      match ← pyNext it with
      | none => pure (.done .next)
      | some v =>
        letOwnedTupleGo t0 it v
        assign t0 env v
        let mut ok := true
        for c in ([] : List Expr) do
          if ok then ok ← isTrue c env (eval c env)
        if ok then
          let x ← eval i1 env
          standAt i1.pos
          let x ← foldedSetIterable i1 env x
          let _ ← runOwn (.compStart (sc2 elt t0 i0 t1 i1 scope pos) 1 (← holding [x] (pyIter x)) acc env) env
        again (.compLoop (sc2 elt t0 i0 t1 i1 scope pos) 0 it acc env)) := by rfl
theorem sc2_inner : compTurn (sc2 elt t0 i0 t1 i1 scope pos) 1 it acc env = (do
      standAt i1.pos
      match ← pyNext it with
      | none => pure (.done .next)
      | some v =>
        letOwnedTupleGo t1 it v
        assign t1 env v
        let mut ok := true
        for c in ([] : List Expr) do
          if ok then ok ← isTrue c env (eval c env)
        if ok then
          (do let v ← eval elt env; standAt elt.pos; let _ ← call (.builtin "set.add") [acc, v])
        again (.compLoop (sc2 elt t0 i0 t1 i1 scope pos) 1 it acc env)) := by rfl
abbrev Nb (prog : Program) (w : World) (A : Around) (env : Env) (R : Result → Shared → Prop) : Value → Shared → Prop := notedBy (model prog w) A env fun e s' => R (.error e) s'
theorem sc2_loop0 (plain : ∀ x, foldedSetIterable i1 env x = pure x) (I : Nat → Shared → Prop)
    (turn : ∀ n s, I n s → wpAny (model prog w) A (pyNext it) (fun r z => match r with
      | none => R (.ok .next) z
      | some v => wpAny (model prog w) A (letOwnedTupleGo t0 it v) (fun _ z => wpAny (model prog w) A (assign t0 env v) (fun _ z => wpAny (model prog w) A (eval i1 env) (fun x z => wpAny (model prog w) A (pyIter x) (fun it1 z =>
          codeAny (model prog w) A (.compStart (sc2 elt t0 i0 t1 i1 scope pos) 1 it1 acc env) (fun r z => match r with
            | .ok _ => ∃ m, m < n ∧ I m z
            | .error _ => False) z) (Nb prog w A env R) z) (Nb prog w A env R) z) (Nb prog w A env R) z) (Nb prog w A env R) z) (Nb prog w A env R) s)
    (n : Nat) (h : I n s) : codeAny (model prog w) A (.compLoop (sc2 elt t0 i0 t1 i1 scope pos) 0 it acc env) R s := by
  refine codeAny_loop rfl I (fun n s hI => ?_) n h
  show wpAny _ A ((compTurn (sc2 elt t0 i0 t1 i1 scope pos) 0 it acc env).onRaise (fun x => do noteFrame x env; theTreesLotGoes x)) _ _ s
  refine wpAny_noted ?_
  rw [sc2_outer]
  refine wpAny_bind (wpAny_standAt (wpAny_bind (wpAny_mono (turn n s hI) (fun r z hz => ?_) fun _ _ e => e)))
  cases r with
  | none => exact wpAny_pure hz
  | some v =>
    refine wpAny_bind (wpAny_mono hz (fun _ z hz => ?_) fun _ _ e => e)
    refine wpAny_bind (wpAny_mono hz (fun _ z hz => ?_) fun _ _ e => e)
    refine wpAny_bind (wpAny_tests_nil ?_)
    refine wpAny_bind (wpAny_mono hz (fun x z hz => ?_) fun _ _ e => e)
    refine wpAny_bind (wpAny_standAt (wpAny_bind (wpAny_of_eq (plain x) (wpAny_bind (wpAny_holding (wpAny_mono hz (fun it1 z hz => ?_) fun _ _ e => e))))))
    refine wpAny_bind (wpAny_runOwn ?_)
    rw [Around.mark_none]
    refine codeAny_mono hz fun r z hr => ?_
    cases r with
    | ok fl => first | exact wpAny_pure ⟨rfl, hr⟩ | exact wpAny_bind (wpAny_pure (wpAny_pure ⟨rfl, hr⟩))
    | error e => exact hr.elim
theorem sc2_loop1 (I : Nat → Shared → Prop)
    (turn : ∀ n s, I n s → wpAny (model prog w) A (pyNext it) (fun r z => match r with
      | none => R (.ok .next) z
      | some v => wpAny (model prog w) A (letOwnedTupleGo t1 it v) (fun _ z => wpAny (model prog w) A (assign t1 env v) (fun _ z => wpAny (model prog w) A (eval elt env) (fun x z =>
          wpAny (model prog w) A (call (.builtin "set.add") [acc, x]) (fun _ z => ∃ m, m < n ∧ I m z) (Nb prog w A env R) z) (Nb prog w A env R) z) (Nb prog w A env R) z) (Nb prog w A env R) z) (Nb prog w A env R) s)
    (n : Nat) (h : I n s) : codeAny (model prog w) A (.compLoop (sc2 elt t0 i0 t1 i1 scope pos) 1 it acc env) R s := by
  refine codeAny_loop rfl I (fun n s hI => ?_) n h
  show wpAny _ A ((compTurn (sc2 elt t0 i0 t1 i1 scope pos) 1 it acc env).onRaise (fun x => do noteFrame x env; theTreesLotGoes x)) _ _ s
  refine wpAny_noted ?_
  rw [sc2_inner]
  refine wpAny_bind (wpAny_standAt (wpAny_bind (wpAny_mono (turn n s hI) (fun r z hz => ?_) fun _ _ e => e)))
  cases r with
  | none => exact wpAny_pure hz
  | some v =>
    refine wpAny_bind (wpAny_mono hz (fun _ z hz => ?_) fun _ _ e => e)
    refine wpAny_bind (wpAny_mono hz (fun _ z hz => ?_) fun _ _ e => e)
    refine wpAny_bind (wpAny_tests_nil ?_)
    exact wpAny_bind (wpAny_bind (wpAny_mono hz (fun x z hz => wpAny_bind (wpAny_standAt (wpAny_bind (wpAny_mono hz (fun _ z hz => wpAny_pure (wpAny_pure ⟨rfl, hz⟩)) fun _ _ e => e)))) fun _ _ e => e))
theorem sc2_start1 (h0 : codeAny (model prog w) A (.compLoop (sc2 elt t0 i0 t1 i1 scope pos) 1 it acc env) R s)
    (h : wpAny (model prog w) A (pyIter it) (fun it' z => codeAny (model prog w) A (.compLoop (sc2 elt t0 i0 t1 i1 scope pos) 1 it' acc env) R z) (Nb prog w A env R) s) :
    codeAny (model prog w) A (.compStart (sc2 elt t0 i0 t1 i1 scope pos) 1 it acc env) R s := by
  refine codeAny_of_tree ?_
  show wpAny _ _ ((compStart (sc2 elt t0 i0 t1 i1 scope pos) 1 it acc env).onRaise (fun x => do noteFrame x env; standAt theWindowsPlace)) _ _ s
  refine wpAny_notedAt ?_
  unfold compStart
  show wpAny _ _ (ask >>= _) _ _ s
  refine wpAny_bind (wpAny_askSetting (wpAny_ite ?_))
  split
  · first
      | exact wpAny_bind (wpAny_pure (wpAny_pure (And.intro rfl h0)))
      | exact wpAny_pure (And.intro rfl h0)
  · refine wpAny_bind (wpAny_rule ?_)
    show wpAny _ _ (standAt i1.pos >>= _) _ _ s
    exact wpAny_bind (wpAny_standAt (wpAny_bind (wpAny_mono h (fun it' z hz => wpAny_pure (And.intro rfl hz)) fun _ _ e => e)))
end
end Ml

namespace Ml
open PySem PySem.Spec PyProof.Rows L2
section
variable {X : Cx}
/-- {elt for t0 in i0 for t1 in i1}, elt an int: D the new set -/
def tSi2 (w : World) (wi : TI) (g : TG) (wi1 : TI) (g1 : TG) (te : TE) (vs vs1 : List Nat) : TE := fun σ H Q => wi σ H fun J H1 => ∀ D, H1 D = none → ∃ W : Nat → Nat → Hp → Prop, (∃ m, W 0 m (upd H1 D (SetO w D (fun _ => false) 0))) ∧ ∀ i m H, W i m H →
  (J.stop i H ∧ Q (.ref D) H) ∨ (J.go i H ∧ ∃ Nx : Hp → Prop, (∀ H', Nx H' → ∃ m', m' < m ∧ W (i + 1) m' H') ∧ ∀ x H', J.yld i H x H' → g x (wipe σ vs) H' fun σ2 H2 => wipe σ2 vs = wipe σ vs ∧
    wi1 σ2 H2 fun J1 H4 => ∃ W1 : Nat → Nat → Hp → Prop, (∃ m, W1 0 m H4) ∧ ∀ j k H, W1 j k H →
      (J1.stop j H ∧ Nx H) ∨ (J1.go j H ∧ ∃ Nx1 : Hp → Prop, (∀ H', Nx1 H' → ∃ k', k' < k ∧ W1 (j + 1) k' H') ∧ ∀ x H', J1.yld j H x H' → g1 x (wipe σ2 vs1) H' fun σ3 H5 => wipe σ3 vs1 = wipe σ2 vs1 ∧
        te σ3 H5 fun y H7 => ∃ (c : Int) (S : Int → Bool) (n : Nat), y = .int c ∧ H7 D = some (SetO w D S n) ∧ n + 1 < scanBound ∧ Nx1 (upd H7 D (SetO w D (fun j => S j || decide (j = c)) (if S c = true then n else n + 1)))))
abbrev InBlk (X : Cx) (scope : Scope) (J : Cx → Prop) : Prop := ∀ (s : Shared) (H : Hp) (C : Addr) (cl : List (PySem.Str × Addr)) (fp : List Addr), J (X.blk s H scope (compEnvC scope cl C X.env) fp)
theorem si2_core {pins : List (Addr × Obj)} {s : Shared} {σ : L2.St} {H : Hp} {Q : VK} {elt t0 i0 t1 i1 : Expr} {scope : Scope} {own : List (PySem.Str × Nat)} {vs1 : List Nat} {pos pos' : Pos} {wi wi1 : TI} {g g1 : TG} {te : TE} {use : Option (Value → Sem Unit)} {Qf : Value → Shared → Prop}
    (calm : X.calm = true) (nod : X.N.Nodup) (I : Inv X pins σ H s) (hi : PI X t0 i0 wi) (ok : BlkOk X.N X.env.scope scope own) (hv : ∀ i ∈ vs1, i ∈ own.map (·.2))
    (hg : InBlk X scope fun Y => PG Y t0 g) (hi1 : InBlk X scope fun Y => PI Y t1 i1 wi1) (hg1 : InBlk X scope fun Y => PG Y t1 g1) (he : InBlk X scope fun Y => PE Y elt te)
    (pl0 : ∀ x, foldedSetIterable i0 X.env x = pure x) (pl1 : ∀ env x, foldedSetIterable i1 env x = pure x) (h : tSi2 X.w wi g wi1 g1 te (own.map (·.2)) vs1 σ H Q)
    (back : ∀ D C z m H', Inv X pins σ H' z → Q (.ref D) H' → z.heap.Ns C m → FpOk X pins H' C → compPost (model X.prog X.w) X.A X.xe use Qf (.ref D) C (.ok .next) z) :
    wpAny (model X.prog X.w) X.A (comprehension (sc2 elt t0 i0 t1 i1 scope pos) scope X.env pos' (newSet (.type "set")) false (eval i0 X.env) use) Qf X.xe s := by
  have frees : ∀ y ∈ scope.names, y.2 = .free → ∃ c, X.env.cells.lookup y.1 = some c := fun y hy e => by
    rcases ok.free y hy e with k | k
    · exact I.ok.has _ (.inl k)
    · exact I.ok.has _ (.inr k)
  refine wpAny_comprehension_free (use := use) rfl pl0 (closure_ok frees) ok.kind (fun y hy e => by rw [ok.uniq y hy, e]) (thn (hi.run pins s σ H _ I h) fun xv z1 hx => thn hx fun itv z2 h2 => ?_)
  obtain ⟨it, fp, tn, J, H2, rfl, I2, T, st2, f2, q⟩ := h2
  refine PpSet.newSet_ok (newEnv_comp ?_)
  generalize hD : z2.heap.objs.size = D
  have hDn : H2 D = none := I2.hok.fresh (Nat.le_of_eq hD)
  obtain ⟨W, ⟨m0, w0⟩, turn⟩ := q D hDn
  generalize hz3 : ({ z2 with heap := z2.heap.push (emptyS X.w) } : Shared) = z3
  have I3 : Inv X pins σ (upd H2 D (SetO X.w D (fun _ => false) 0)) z3 := by
    rw [← hz3]
    refine I2.laid (t' := z2.toks) (fun b o e => Heap.get?_push_of_some _ e) (Nat.le_of_eq hD) ?_
    rw [← hD]
    exact setO_new (setR_fresh X.w)
  have h3 : z3.heap = z2.heap.push (emptyS X.w) := by rw [← hz3]
  have f3 : ∀ b ∈ fp, FpOk X pins (upd H2 D (SetO X.w D (fun _ => false) 0)) b ∧ b < z3.heap.objs.size := fun b hb => by
    obtain ⟨o, e, _⟩ := T.obj _ _ st2 b hb
    have lt := Heap.lt_size e
    refine ⟨⟨?_, (f2 b hb).2⟩, by rw [h3, Heap.size_push]; exact Nat.lt_succ_of_lt lt⟩
    rw [upd_ne (by rw [← hD]; exact Nat.ne_of_lt lt)]
    exact (f2 b hb).1
  have st3 : tn 0 z3.heap := T.keep _ _ _ st2 fun b _ o e => by rw [h3]; exact Heap.get?_push_of_some _ e
  have I4 := block_start I3 ok nod f3
  generalize hcl : cellsFrom (z3.heap.objs.size + 1) scope.names (cloFrom X.env.cells scope.names []) = cl at I4
  have pg := hg z3 (upd H2 D (SetO X.w D (fun _ => false) 0)) z3.heap.objs.size cl fp
  have pe := he z3 (upd H2 D (SetO X.w D (fun _ => false) 0)) z3.heap.objs.size cl fp
  have pi1 := hi1 z3 (upd H2 D (SetO X.w D (fun _ => false) 0)) z3.heap.objs.size cl fp
  have pg1 := hg1 z3 (upd H2 D (SetO X.w D (fun _ => false) 0)) z3.heap.objs.size cl fp
  have goal : codeAny (model X.prog X.w) X.A (.compStart (sc2 elt t0 i0 t1 i1 scope pos) 0 (.ref it) (.ref D) (compEnvC scope cl z3.heap.objs.size X.env)) (compPost (model X.prog X.w) X.A X.xe use Qf (.ref D) z3.heap.objs.size) { z3 with heap := pushCells (z3.heap.push { cls := .type "dict", data := .dict #[] }) scope.names } := by
    have nfp : ∀ b ∈ fp, (upd H2 D (SetO X.w D (fun _ => false) 0)) b = none := fun b hb => (f3 b hb).1.1
    generalize hce : compEnvC scope cl z3.heap.objs.size X.env = ce at I4 pg pe pi1 pg1 ⊢
    have cL : ce.locals = z3.heap.objs.size := by subst hce; rfl
    generalize hH3 : upd H2 D (SetO X.w D (fun _ => false) 0) = H3 at I3 I4 pg pe pi1 pg1 w0 nfp f3
    generalize hz4 : ({ z3 with heap := pushCells (z3.heap.push { cls := .type "dict", data := .dict #[] }) scope.names } : Shared) = z4 at I4 ⊢
    have st4 : tn 0 z4.heap := T.keep _ _ _ st3 fun b _ o e => by rw [← hz4]; exact pushCells_keeps _ _ _ _ (Heap.get?_push_of_some _ e)
    have stat : ∀ {σ' : L2.St} {H' : Hp} {z : Shared}, Inv (X.blk z3 H3 scope ce fp) [] σ' H' z → (∀ b ∈ fp, H' b = none) → ∀ b ∈ fp, FpOk (X.blk z3 H3 scope ce fp) [] H' b := fun {σ' H' z} J' hn b hb =>
      ⟨hn b hb, (J'.ok.exf b hb).1, J'.ok.exfs b hb, .inl hb, fun x c e => (J'.ok.exf b hb).2 x c e, fun p hp => absurd (show p ∈ ([] : List (Addr × Obj)) ++ [] from hp) List.not_mem_nil⟩
    have loop : codeAny (model X.prog X.w) X.A (.compLoop (sc2 elt t0 i0 t1 i1 scope pos) 0 (.ref it) (.ref D) ce) (compPost (model X.prog X.w) X.A X.xe use Qf (.ref D) z3.heap.objs.size) z4 := by
      refine sc2_loop0 (pl1 ce) (fun n z => ∃ i H', Inv (X.blk z3 H3 scope ce fp) [] (wipe σ (own.map (·.2))) H' z ∧ tn i z.heap ∧ (∀ b ∈ fp, H' b = none) ∧ W i n H') ?_ m0 ⟨0, H3, I4, st4, nfp, w0⟩
      rintro n z5 ⟨i, H5, I5, st5, n5, w5⟩
      rcases turn i n H5 w5 with ⟨stop, qq⟩ | ⟨go, Nx, hNx, step⟩
      · refine thnF (T.done (X.blk z3 H3 scope ce fp) rfl rfl rfl calm i [] z5 _ H5 (fun _ _ => False) I5 (stat I5 n5) st5 stop) fun r z6 ⟨hr, I6⟩ => ?_
        subst hr
        have I7 : Inv X pins σ H5 z6 := I3.call' (ch := fp) I6.os I6.base I6.hok I6.bare fun b hb => ⟨(f3 b hb).1.2.2.2.1, (f3 b hb).1.2.1, (f3 b hb).1.2.2.2.2.1, (f3 b hb).1.2.2.2.2.2⟩
        have nC : H5 z3.heap.objs.size = none := by
          have e : H5 ce.locals = none := I6.free
          rwa [cL] at e
        obtain ⟨m, hn, _⟩ := I6.loc
        have hn : z6.heap.Ns ce.locals m := hn
        rw [cL] at hn
        exact back D z3.heap.objs.size z6 m H5 I7 qq hn (I3.fpOk (Nat.le_refl _) nC)
      · refine thnF (T.item (X.blk z3 H3 scope ce fp) rfl rfl rfl calm i [] z5 _ H5 (fun _ _ => False) I5 (stat I5 n5) st5 go) fun r z6 ⟨u, hr, h6⟩ => ?_
        subst hr
        refine thnF h6 fun _ z7 ⟨x, H7, I7, r7, y7, st7, n7⟩ => ?_
        have I7' := I7.pinned (stat I7 n7) (T.obj _ _ st7)
        refine thnF (pg.run _ z7 _ H7 x u _ I7' r7 (step x H7 y7)) fun _ z8 ⟨σ8, H8, I8, hw8, q8⟩ => ?_
        have fin : ∀ {σ9 : L2.St} {z : Shared} {H' : Hp}, Inv (X.blk z3 H3 scope ce fp) ([] ++ pinsAt fp z7.heap) σ9 H' z → (wipe σ (own.map (·.2))).length = σ9.length → (∀ (j : Nat) v, (wipe σ (own.map (·.2)))[j]? = some (some v) → σ9[j]? = some (some v)) → Nx H' →
            ∃ m, m < n ∧ ∃ i H', Inv (X.blk z3 H3 scope ce fp) [] (wipe σ (own.map (·.2))) H' z ∧ tn i z.heap ∧ (∀ b ∈ fp, H' b = none) ∧ W i m H' := fun {σ9 z H'} J' hl hk nx => by
          obtain ⟨m', hm, w'⟩ := hNx H' nx
          have pin : ∀ b ∈ fp, ∀ o, z7.heap.get? b = some o → z.heap.get? b = some o ∧ H' b = none := fun b hb o e => by
            have p := J'.pin (b, o) (List.mem_append_right _ (List.mem_append_right _ (mem_pinsAt hb e)))
            exact ⟨p.1, p.2.1⟩
          refine ⟨m', hm, i + 1, H', (J'.unpinned (pins := [])).weak hl hk, T.keep _ _ _ st7 fun b hb o e => (pin b hb o e).1, fun b hb => ?_, w'⟩
          obtain ⟨o, e, _⟩ := T.obj _ _ st7 b hb
          exact (pin b hb o e).2
        have hl8 : (wipe σ (own.map (·.2))).length = σ8.length := by rw [← hw8, wipe_length]
        have hk9 : ∀ (j : Nat) v, (wipe σ (own.map (·.2)))[j]? = some (some v) → (wipe σ8 vs1)[j]? = some (some v) := fun j v e => by
          rw [← hw8] at e
          obtain ⟨e1, e2⟩ := wipe_some e
          rw [wipe_out fun z => e2 (hv j z)]
          exact e1
        refine thnF (pi1.run _ z8 σ8 H8 _ I8 q8) fun xv z10 hx => thnF hx fun itv z11 h11 => ?_
        obtain ⟨it1, fp1, tn1, J1, H11, rfl, I11, T1, st11, f11, W1, ⟨m1, w1⟩, turn1⟩ := h11
        have stat1 : ∀ {H' : Hp}, (∀ b ∈ fp1, H' b = none) → ∀ b ∈ fp1, FpOk (X.blk z3 H3 scope ce fp) ([] ++ pinsAt fp z7.heap) H' b := fun hn b hb => ⟨hn b hb, (f11 b hb).2⟩
        have loop1 : codeAny (model X.prog X.w) X.A (.compLoop (sc2 elt t0 i0 t1 i1 scope pos) 1 (.ref it1) (.ref D) ce)
            (fun r z => match r with
              | .ok _ => ∃ m, m < n ∧ ∃ i H', Inv (X.blk z3 H3 scope ce fp) [] (wipe σ (own.map (·.2))) H' z ∧ tn i z.heap ∧ (∀ b ∈ fp, H' b = none) ∧ W i m H'
              | .error _ => False) z11 := by
          refine sc2_loop1 (fun k z => ∃ j H', Inv (X.blk z3 H3 scope ce fp) ([] ++ pinsAt fp z7.heap) (wipe σ8 vs1) H' z ∧ tn1 j z.heap ∧ (∀ b ∈ fp1, H' b = none) ∧ W1 j k H') ?_ m1 ⟨0, H11, I11.weak (wipe_length _ _) (fun j v e => (wipe_some e).1), st11, fun b hb => (f11 b hb).1, w1⟩
          rintro k z12 ⟨j, H12, I12, st12, n12, w12⟩
          rcases turn1 j k H12 w12 with ⟨stop1, nx1⟩ | ⟨go1, Nx1, hNx1, step1⟩
          · refine thnF (T1.done (X.blk z3 H3 scope ce fp) rfl rfl rfl calm j _ z12 (wipe σ8 vs1) H12 (fun _ _ => False) I12 (stat1 n12) st12 stop1) fun r z13 ⟨hr, I13⟩ => ?_
            subst hr
            exact fin I13 (hl8.trans (wipe_length σ8 vs1).symm) hk9 nx1
          · refine thnF (T1.item (X.blk z3 H3 scope ce fp) rfl rfl rfl calm j _ z12 (wipe σ8 vs1) H12 (fun _ _ => False) I12 (stat1 n12) st12 go1) fun r z13 ⟨u1, hr, h13⟩ => ?_
            subst hr
            refine thnF h13 fun _ z14 ⟨x1, H14, I14, r14, y14, st14, n14⟩ => ?_
            have I14' := I14.pinned (stat1 n14) (T1.obj _ _ st14)
            refine thnF (pg1.run _ z14 (wipe σ8 vs1) H14 x1 u1 _ I14' r14 (step1 x1 H14 y14)) fun _ z15 ⟨σ15, H15, I15, hw15, q15⟩ => ?_
            refine thnF (pe.run _ z15 σ15 H15 _ I15 q15) fun zv z17 ⟨yv, H17, I17, r17, c, S0, n0, ey, hD17, room, nx⟩ => ?_
            subst ey
            obtain ⟨tk, rfl⟩ := r17
            refine put_int (X := X.blk z3 H3 scope ce fp) I17 hD17 room fun z18 I18 => ?_
            obtain ⟨m', hm, w'⟩ := hNx1 _ nx
            have pin : ∀ b ∈ fp1, ∀ o, z14.heap.get? b = some o → z18.heap.get? b = some o ∧ _ := fun b hb o e => by
              have p := I18.pin (b, o) (List.mem_append_right _ (List.mem_append_right _ (mem_pinsAt hb e)))
              exact ⟨p.1, p.2.1⟩
            refine ⟨m', hm, j + 1, _, I18.unpinned.weak (by rw [← hw15, wipe_length]) (fun j v e => by rw [← hw15] at e; exact (wipe_some e).1), T1.keep _ _ _ st14 fun b hb o e => (pin b hb o e).1, fun b hb => ?_, w'⟩
            obtain ⟨o, e, _⟩ := T1.obj _ _ st14 b hb
            exact (pin b hb o e).2
        exact sc2_start1 loop1 (T1.self X.A 0 _ _ _ st11 loop1)
    exact PpSet.codeAny_compStart_set loop (T.self X.A 0 _ _ _ st4 loop)
  subst hcl
  exact goal
theorem pe_si2 {elt t0 i0 t1 i1 : Expr} {scope : Scope} {own : List (PySem.Str × Nat)} {vs1 : List Nat} {pos : Pos} {wi wi1 : TI} {g g1 : TG} {te : TE} (calm : X.calm = true) (nod : X.N.Nodup) (hi : PI X t0 i0 wi) (ok : BlkOk X.N X.env.scope scope own) (hv : ∀ i ∈ vs1, i ∈ own.map (·.2))
    (hg : ∀ (s : Shared) (H : Hp) (C : Addr) (cl : List (PySem.Str × Addr)) (fp : List Addr), PG (X.blk s H scope (compEnvC scope cl C X.env) fp) t0 g) (hi1 : ∀ (s : Shared) (H : Hp) (C : Addr) (cl : List (PySem.Str × Addr)) (fp : List Addr), PI (X.blk s H scope (compEnvC scope cl C X.env) fp) t1 i1 wi1) (hg1 : ∀ (s : Shared) (H : Hp) (C : Addr) (cl : List (PySem.Str × Addr)) (fp : List Addr), PG (X.blk s H scope (compEnvC scope cl C X.env) fp) t1 g1) (he : ∀ (s : Shared) (H : Hp) (C : Addr) (cl : List (PySem.Str × Addr)) (fp : List Addr), PE (X.blk s H scope (compEnvC scope cl C X.env) fp) elt te)
    (pl0 : ∀ x, foldedSetIterable i0 X.env x = pure x := by intro _; rfl) (pl1 : ∀ env x, foldedSetIterable i1 env x = pure x := by intro _ _; rfl) :
    PE X (.SetComp elt [⟨t0, i0, [], 0⟩, ⟨t1, i1, [], 0⟩] scope pos) (tSi2 X.w wi g wi1 g1 te (own.map (·.2)) vs1) := by
  refine ⟨fun pins s σ H Q I h => ?_⟩
  rw [PpSet.eval_SetComp]
  refine si2_core calm nod I hi ok hv hg hi1 hg1 he pl0 pl1 h fun D C z m H' I' q hn f => ⟨m, hn, fun _ sb => ?_⟩
  obtain ⟨f0, f1, f2, f3, f4, f5⟩ := f
  exact ⟨.ref D, H', I'.turned (t' := z.toks) (fun b o hb e => (sb.2 b hb).trans e) f0 f1 f3 f4 f5, rfl, q⟩
end
end Ml

namespace Ml
open PySem PySem.Spec PyProof.Rows L2
def topS (i : Nat) : Stmt := PySem.Challenge.pw_mergelevels_k06_whole_names_of_items.main.body.getD i (.Pass ⟨0, 0, 0, 0⟩)
abbrev s_is_whole : Stmt := topS 5
abbrev N_is_whole : List Str := ["value"]
theorem sc_is_whole : FnScope N_is_whole ["value"] (defScope s_is_whole) := ⟨rfl, rfl, rfl, by decide +kernel, rfl, by decide +kernel, by decide +kernel⟩
abbrev s_is_level : Stmt := topS 6
abbrev N_is_level : List Str := ["value"]
theorem sc_is_level : FnScope N_is_level ["value"] (defScope s_is_level) := ⟨rfl, rfl, rfl, by decide +kernel, rfl, by decide +kernel, by decide +kernel⟩
abbrev s_is_item : Stmt := topS 7
abbrev N_is_item : List Str := ["table", "value"]
theorem sc_is_item : FnScope N_is_item ["table", "value"] (defScope s_is_item) := ⟨rfl, rfl, rfl, by decide +kernel, rfl, by decide +kernel, by decide +kernel⟩
abbrev s_check_items : Stmt := topS 8
abbrev N_check_items : List Str := ["table", "one", "other"]
theorem sc_check_items : FnScope N_check_items ["table", "one", "other"] (defScope s_check_items) := ⟨rfl, rfl, rfl, by decide +kernel, rfl, by decide +kernel, by decide +kernel⟩
abbrev s_find_row_fault : Stmt := topS 9
abbrev N_find_row_fault : List Str := ["at", "row", "place", "level"]
theorem sc_find_row_fault : FnScope N_find_row_fault ["at", "row"] (defScope s_find_row_fault) := ⟨rfl, rfl, rfl, by decide +kernel, rfl, by decide +kernel, by decide +kernel⟩
abbrev s_find_fault : Stmt := topS 10
abbrev N_find_fault : List Str := ["value", "at", "row", "fault"]
theorem sc_find_fault : FnScope N_find_fault ["value"] (defScope s_find_fault) := ⟨rfl, rfl, rfl, by decide +kernel, rfl, by decide +kernel, by decide +kernel⟩
abbrev s_level_between : Stmt := topS 11
abbrev N_level_between : List Str := ["table", "one", "other"]
theorem sc_level_between : FnScope N_level_between ["table", "one", "other"] (defScope s_level_between) := ⟨rfl, rfl, rfl, by decide +kernel, rfl, by decide +kernel, by decide +kernel⟩
abbrev s_level_of : Stmt := topS 12
abbrev N_level_of : List Str := ["table", "one", "other"]
theorem sc_level_of : FnScope N_level_of ["table", "one", "other"] (defScope s_level_of) := ⟨rfl, rfl, rfl, by decide +kernel, rfl, by decide +kernel, by decide +kernel⟩
abbrev s_levels_of : Stmt := topS 13
abbrev N_levels_of : List Str := ["table", "row", "level"]
theorem sc_levels_of : FnScope N_levels_of ["table"] (defScope s_levels_of) := ⟨rfl, rfl, rfl, by decide +kernel, rfl, by decide +kernel, by decide +kernel⟩
abbrev s_pairs_of : Stmt := topS 14
abbrev N_pairs_of : List Str := ["table", "count", "one", "other"]
theorem sc_pairs_of : FnScope N_pairs_of ["table"] (defScope s_pairs_of) := ⟨rfl, rfl, rfl, by decide +kernel, rfl, by decide +kernel, by decide +kernel⟩
abbrev s_is_even : Stmt := topS 15
abbrev N_is_even : List Str := ["table", "one", "other", "third", "levels"]
theorem sc_is_even : FnScope N_is_even ["table", "one", "other", "third"] (defScope s_is_even) := ⟨rfl, rfl, rfl, by decide +kernel, rfl, by decide +kernel, by decide +kernel⟩
abbrev s_uneven_items : Stmt := topS 16
abbrev N_uneven_items : List Str := ["table", "one", "other", "third"]
theorem sc_uneven_items : FnScope N_uneven_items ["table"] (defScope s_uneven_items) := ⟨rfl, rfl, rfl, by decide +kernel, rfl, by decide +kernel, by decide +kernel⟩
abbrev s_is_nested : Stmt := topS 17
abbrev N_is_nested : List Str := ["table"]
theorem sc_is_nested : FnScope N_is_nested ["table"] (defScope s_is_nested) := ⟨rfl, rfl, rfl, by decide +kernel, rfl, by decide +kernel, by decide +kernel⟩
abbrev s_L_draws : Stmt := topS 19
abbrev N_L_draws : List Str := ["_law_script", "_law_cells", "_law_cell"]
theorem sc_L_draws : FnScope N_L_draws ["_law_script"] (defScope s_L_draws) := ⟨rfl, rfl, rfl, by decide +kernel, rfl, by decide +kernel, by decide +kernel⟩
abbrev s_L_next : Stmt := topS 20
abbrev N_L_next : List Str := ["_law_drawn", "_law_many", "_law_cells", "_law_turn", "_law_rests", "_law_spot", "_law_digit", "_law_mixed_here", "_law_again"]
theorem sc_L_next : FnScope N_L_next ["_law_drawn", "_law_many"] (defScope s_L_next) := ⟨rfl, rfl, rfl, by decide +kernel, rfl, by decide +kernel, by decide +kernel⟩
abbrev s_L_one : Stmt := topS 21
abbrev N_L_one : List Str := ["_law_drawn", "_law_items"]
theorem sc_L_one : FnScope N_L_one ["_law_drawn", "_law_items"] (defScope s_L_one) := ⟨rfl, rfl, rfl, by decide +kernel, rfl, by decide +kernel, by decide +kernel⟩
abbrev s_L_count : Stmt := topS 22
abbrev N_L_count : List Str := ["_law_drawn", "_law_most"]
theorem sc_L_count : FnScope N_L_count ["_law_drawn", "_law_most"] (defScope s_L_count) := ⟨rfl, rfl, rfl, by decide +kernel, rfl, by decide +kernel, by decide +kernel⟩
abbrev s_L_grades : Stmt := topS 23
abbrev N_L_grades : List Str := ["_law_drawn", "_law_way", "_law_many", "_law_wide", "_law_found", "_law_k"]
theorem sc_L_grades : FnScope N_L_grades ["_law_drawn"] (defScope s_L_grades) := ⟨rfl, rfl, rfl, by decide +kernel, rfl, by decide +kernel, by decide +kernel⟩
abbrev s_L_level : Stmt := topS 24
abbrev N_L_level : List Str := ["_law_table_here", "_law_one_here", "_law_other", "_law_low", "_law_high"]
theorem sc_L_level : FnScope N_L_level ["_law_table_here", "_law_one_here", "_law_other"] (defScope s_L_level) := ⟨rfl, rfl, rfl, by decide +kernel, rfl, by decide +kernel, by decide +kernel⟩
abbrev s_L_nested : Stmt := topS 25
abbrev N_L_nested : List Str := ["_law_drawn", "_law_count_here", "_law_grades_here", "_law_rows", "_law_near", "_law_level_here", "_law_row", "_law_k"]
theorem sc_L_nested : FnScope N_L_nested ["_law_drawn", "_law_count_here", "_law_grades_here"] (defScope s_L_nested) := ⟨rfl, rfl, rfl, by decide +kernel, rfl, by decide +kernel, by decide +kernel⟩
abbrev s_L_raised : Stmt := topS 26
abbrev N_L_raised : List Str := ["_law_drawn", "_law_table_here", "_law_grades_here", "_law_found", "_law_row", "_law_level_here"]
theorem sc_L_raised : FnScope N_L_raised ["_law_drawn", "_law_table_here", "_law_grades_here"] (defScope s_L_raised) := ⟨rfl, rfl, rfl, by decide +kernel, rfl, by decide +kernel, by decide +kernel⟩
abbrev s_L_levels : Stmt := topS 27
abbrev N_L_levels : List Str := ["_law_drawn", "_law_many", "_law_grades_here", "_law_k"]
theorem sc_L_levels : FnScope N_L_levels ["_law_drawn", "_law_many", "_law_grades_here"] (defScope s_L_levels) := ⟨rfl, rfl, rfl, by decide +kernel, rfl, by decide +kernel, by decide +kernel⟩
abbrev s_L_any : Stmt := topS 28
abbrev N_L_any : List Str := ["_law_drawn", "_law_many", "_law_wide", "_law_k"]
theorem sc_L_any : FnScope N_L_any ["_law_drawn", "_law_many", "_law_wide"] (defScope s_L_any) := ⟨rfl, rfl, rfl, by decide +kernel, rfl, by decide +kernel, by decide +kernel⟩
abbrev s_L_table : Stmt := topS 29
abbrev N_L_table : List Str := ["_law_drawn", "_law_count_here", "_law_grades_here", "_law_way", "_law_one_here", "_law_wide", "_law_table_here", "_law_other", "_law_level_here", "_law_row"]
theorem sc_L_table : FnScope N_L_table ["_law_drawn", "_law_count_here"] (defScope s_L_table) := ⟨rfl, rfl, rfl, by decide +kernel, rfl, by decide +kernel, by decide +kernel⟩
abbrev s_L_mixed : Stmt := topS 30
abbrev N_L_mixed : List Str := ["_law_drawn", "_law_items", "_law_rest", "_law_found"]
theorem sc_L_mixed : FnScope N_L_mixed ["_law_drawn", "_law_items"] (defScope s_L_mixed) := ⟨rfl, rfl, rfl, by decide +kernel, rfl, by decide +kernel, by decide +kernel⟩
abbrev s_L_renamed : Stmt := topS 31
abbrev N_L_renamed : List Str := ["_law_table_here", "_law_order", "_law_rows", "_law_high", "_law_row", "_law_low"]
theorem sc_L_renamed : FnScope N_L_renamed ["_law_table_here", "_law_order"] (defScope s_L_renamed) := ⟨rfl, rfl, rfl, by decide +kernel, rfl, by decide +kernel, by decide +kernel⟩
abbrev s_L_same_levels : Stmt := topS 32
abbrev N_L_same_levels : List Str := ["_law_table_here", "_law_other", "_law_order", "_law_one_here", "_law_found", "_law_two"]
theorem sc_L_same_levels : FnScope N_L_same_levels ["_law_table_here", "_law_other", "_law_order"] (defScope s_L_same_levels) := ⟨rfl, rfl, rfl, by decide +kernel, rfl, by decide +kernel, by decide +kernel⟩
abbrev s_L_is_even : Stmt := topS 33
abbrev N_L_is_even : List Str := ["_law_table_here", "_law_three", "_law_levels_here"]
theorem sc_L_is_even : FnScope N_L_is_even ["_law_table_here", "_law_three"] (defScope s_L_is_even) := ⟨rfl, rfl, rfl, by decide +kernel, rfl, by decide +kernel, by decide +kernel⟩
abbrev s_law : Stmt := topS 34
abbrev N_law : List Str := ["_law_script", "_law_drawn", "_law_turn", "_law_table_here", "_law_order", "_law_other", "_law_one_here", "_law_names", "_law_three", "_law_item"]
theorem sc_law : FnScope N_law ["_law_script"] (defScope s_law) := ⟨rfl, rfl, rfl, by decide +kernel, rfl, by decide +kernel, by decide +kernel⟩
/-! ### the names of the module -/
structure Bi (mg : Str → Option Value) : Prop where
  len : mg "len" = none
  list : mg "list" = none
  int : mg "int" = none
  range : mg "range" = none
  sorted : mg "sorted" = none
  set : mg "set" = none
  tuple : mg "tuple" = none
  min : mg "min" = none
  max : mg "max" = none
  isinstance : mg "isinstance" = none
  bool : mg "bool" = none
  str : mg "str" = none
  all : mg "all" = none
  zip : mg "zip" = none
  repr : mg "repr" = none
  enumerate : mg "enumerate" = none
structure Df (K : PySem.W.Frag) (mg : Str → Option Value) (x : Str) (st : Stmt) (f : Addr) (fd : FuncData) (ps : List Str) : Prop where
  F : Fun K x x st f fd
  b : Binds K fd ps []
  g : mg x = some (.ref f)
section
variable {X : Cx} {k : Nat} {f : Addr} {fd : FuncData} {ps : List Str} {sp : Sp} {x : Str} {p pos : Pos} {e : Expr} {es : List Expr} {t : TA} {st : Stmt}
theorem pe_cl (D : Df X.K X.mg x st f fd ps) (G : FnOk X.prog X.w X.K X.mg X.base CX0 k f fd ps sp) (hr : Room k X.A) (ha : PA X (e :: es) t) (hg : Gl X x := by rfl) (hdb : (x == ("__debug__" : Str)) = false := by decide)
    (he : starEach (e :: es) X.env = (false, eval e X.env) :: starEach es X.env := by rfl) (hpl : (backTo pos (starEach es X.env)).any (·.1) = false := by rfl) : PE X (.Call (.Name x p) (e :: es) [] pos) (tCall sp [] E0 t) :=
  pe_call G hr hg D.g D.F.kp D.b .nil pass0 ha hdb he hpl
theorem pe_len {a : Expr} {ta : TE} (B : Bi X.mg) (ha : PE X a ta) (hg : Gl X "len" := by rfl) (he : starEach [a] X.env = (false, eval a X.env) :: starEach [] X.env := by rfl) :
    PE X (.Call (.Name "len" p) [a] [] pos) (tCB (fun xs H Q => ∃ p ys, xs = [.ref p] ∧ (SqL X.K H p ys ∨ SqT X.K H p ys) ∧ Q (.int ys.length) H) (tCons ta tNil)) :=
  pe_callB call_len_seq hg B.len PySem.boot_len (pa_cons ha pa_nil he) (by decide) (by decide) he
end
section
variable {P : Program} {w : World} {K : PySem.W.Frag} {mg : Str → Option Value} {base : Heap}
/-! ### drawing -/
def sp_next : Sp := fun vs H Q _ => ∃ (d c r : Addr) (n : Nat) (m : Int), vs = [.ref d, .int m] ∧ Dr H d c r n ∧ n ≤ 900000 ∧ 0 < m ∧ m ≤ 1000000000000 ∧
  ∀ (H' : Hp) (k : Nat), (k : Int) < m → Dr H' d c r (n + 1) → Kp d r H H' → Q (.int (k : Int)) H'
theorem ok_next {f : Addr} {fd : FuncData} {k : Nat} (F : Fun K "_law_next" "_law_next" s_L_next f fd) (B : Bi mg) : FnOk P w K mg base CX0 (k + 1) f fd ["_law_drawn", "_law_many"] sp_next := by
  refine F.ok sc_L_next (fun vs H Q E h => ?_) (fun cdv A outer s H vs Q E hr h => ?_)
  · obtain ⟨d, c, r, n, m, rfl, _⟩ := h
    rfl
  · obtain ⟨d, c, r, n, m, rfl, hD, hn, hm0, hm1, q⟩ := h
    have nd := sc_L_next.nd
    refine ⟨_, pss_cons (ps_asg (pv 0) (pg_unl rfl (pgs_cons (pg_name (i := 2) nd rfl (.inl rfl)) (pgs_cons (pg_name (i := 3) nd rfl (.inl rfl)) (pgs_cons (pg_name (i := 4) nd rfl (.inl rfl)) pgs_nil)))))
      (pss_cons (ps_set (i := 5) nd rfl (.inl rfl) (pe_op op_mod (pv 3) (pe_len B (pv 2))))
      (pss_cons (ps_asg (pe_op op_add (pv 3) pe_int) (pg_sub (pv 0) pe_int set_list))
      (pss_cons (ps_if (pt_cmpR op_gt (pe_ix ix_list (pv 4) (pv 5) (fun _ _ => rfl)) pe_int (nomark _))
        (pss_cons (ps_set (i := 6) nd rfl (.inl rfl) (pe_op op_mod (pe_ix ix_list (pv 4) (pv 5) (fun _ _ => rfl)) (pv 1)))
        (pss_cons (ps_asg (pe_op op_fdivW (pe_ix ix_list (pv 4) (pv 5) (fun _ _ => rfl)) (pv 1)) (pg_sub (pv 4) (pv 5) set_list))
        (pss_one (ps_ret (pv 6))))) pss_nil)
      (pss_cons (ps_set (i := 7) nd rfl (.inl rfl) (pe_op op_mod (pe_op op_pow (pe_op op_add (pe_op op_add (pe_op op_mod (pe_ix ix_list (pv 2) (pv 5) (fun _ _ => rfl)) pe_int) (pe_op op_mul pe_int (pv 3))) pe_int) pe_int) pe_int))
      (pss_cons (ps_set (i := 8) nd rfl (.inl rfl) (pe_op op_mod (pe_op op_pow (pe_op op_add (pe_op op_add (pv 7) (pe_op op_mul (pe_op op_mul pe_int (pv 3)) (pv 3))) pe_int) pe_int) pe_int))
      (pss_one (ps_ret (pe_op op_mod (pe_op op_mod (pe_op op_add (pe_op op_mul (pv 8) pe_int) (pv 7)) pe_int) (pv 1))))))))), ?_⟩
    obtain ⟨⟨cells, rests, t, hd, hc, hr', hlen, h0, h64, ht, hpos⟩, dc, dr, cr⟩ := hD
    -- the three names
    refine ⟨.ref d, rfl, d, _, rfl, SqL.of hd, rfl, _, _, rfl, _, _, rfl, _, _, rfl, rfl, ?_⟩
    -- the place
    refine ⟨.int (t : Int), rfl, .ref c, rfl, c, _, rfl, .inl (SqL.of hc), _, _, rfl, rfl, by rw [List.length_map]; omega, ?_⟩
    obtain ⟨sp, hsp⟩ : ∃ sp : Nat, sp = t % cells.length := ⟨_, rfl⟩
    have esp : (t : Int) % ((cells.map V.int).length : Int) = (sp : Int) := by rw [List.length_map, hsp]; exact (Int.natCast_emod t cells.length).symm
    have lsp : sp < cells.length := by rw [hsp]; exact Nat.mod_lt _ h0
    have lsr : sp < rests.length := by omega
    dsimp only
    rw [esp]
    -- one more
    refine ⟨.int (t : Int), rfl, _, _, rfl, rfl, .ref d, rfl, d, _, 1, 1, rfl, rfl, hd, rfl, ?_⟩
    generalize hH1 : upd H d (.lst (List.set [.ref c, .int (t : Int), .ref r] 1 (.int ((t : Int) + 1)))) = H1
    have hd1 : H1 d = some (.lst [.ref c, .int ((t + 1 : Nat) : Int), .ref r]) := by rw [← hH1, upd_same]; rfl
    have hc1 : H1 c = some (.lst (cells.map V.int)) := by rw [← hH1, upd_ne dc.symm]; exact hc
    have hr1 : H1 r = some (.lst (rests.map V.int)) := by rw [← hH1, upd_ne dr.symm]; exact hr'
    have k1 : Kp d r H H1 := fun b o e n1 n2 => by rw [← hH1, upd_ne n1]; exact e
    have er := getD_at lsr
    have rAt : atI (rests.map V.int) (sp : Int) = some (.int (rests.getD sp 0)) := atI_nat (map_at er)
    have ec := getD_at lsp
    have cAt : atI (cells.map V.int) (sp : Int) = some (.int (cells.getD sp 0)) := atI_nat (map_at ec)
    refine ⟨.ref r, rfl, .int (sp : Int), rfl, r, _, _, _, rfl, rfl, SqL.of hr1, rAt, _, _, rfl, rfl, _, rfl, ite2 (fun hg => ?_) (fun hg => ?_)⟩
    · have hg : (0 : Int) < rests.getD sp 0 := of_decide_eq_true hg
      refine ⟨.ref r, rfl, .int (sp : Int), rfl, r, _, _, _, rfl, rfl, SqL.of hr1, rAt, .int m, rfl, _, _, rfl, rfl, hm0, ?_⟩
      refine ⟨.ref r, rfl, .int (sp : Int), rfl, r, _, _, _, rfl, rfl, SqL.of hr1, rAt, .int m, rfl, _, _, rfl, rfl, wide_div (b := 64) hm0 (by omega) (by decide) (by decide), ?_⟩
      refine ⟨.ref r, rfl, .int (sp : Int), rfl, r, _, _, sp, rfl, rfl, hr1, ixN_at (by rw [List.length_map]; exact lsr), ?_⟩
      refine ⟨_, rfl, ?_⟩
      have hz := Int.emod_nonneg (rests.getD sp 0) (by omega : m ≠ 0)
      have hl := Int.emod_lt_of_pos (rests.getD sp 0) hm0
      dsimp only
      rw [show rests.getD sp 0 % m = ((rests.getD sp 0 % m).toNat : Int) from (Int.toNat_of_nonneg hz).symm]
      refine q _ _ (by omega) ⟨⟨cells, rests.set sp (rests.getD sp 0 / m), t + 1, ?_, ?_, ?_, ?_, h0, h64, by omega, ?_⟩, dc, dr, cr⟩ ?_
      · rw [upd_ne dr]; exact hd1
      · rw [upd_ne cr]; exact hc1
      · rw [upd_same, List.map_set]
      · rw [List.length_set]; exact hlen
      · intro x hx
        rcases List.mem_or_eq_of_mem_set hx with hx | hx
        · exact hpos x hx
        · rw [hx]; exact Int.ediv_nonneg (Int.le_of_lt hg) (Int.le_of_lt hm0)
      · intro b o e n1 n2
        rw [upd_ne n2]
        exact k1 b o e n1 n2
    · have ht6 : t ≤ 900000 := Nat.le_trans ht hn
      have htt : t * t ≤ 900000 * 900000 := Nat.mul_le_mul ht6 ht6
      have httI : (t : Int) * (t : Int) ≤ 900000 * 900000 := Int.mul_le_mul (by omega) (by omega) (by omega) (by omega)
      have htt0 : (0 : Int) ≤ (t : Int) * (t : Int) := Int.mul_nonneg (by omega) (by omega)
      have c0 := Int.emod_nonneg (cells.getD sp 0) (show (2147483629 : Int) ≠ 0 by decide)
      have c1 := Int.emod_lt_of_pos (cells.getD sp 0) (show (0 : Int) < 2147483629 by decide)
      refine ⟨.ref c, rfl, .int (sp : Int), rfl, c, _, _, _, rfl, rfl, SqL.of hc1, cAt, _, _, rfl, rfl, (by show (0 : Int) < 2147483629; decide), .int (t : Int), rfl, _, _, rfl, rfl, .inl ⟨by decide, by decide⟩, _, _, rfl, rfl, _, _, rfl, rfl, _, _, rfl, rfl, ⟨by decide, by decide, by omega⟩, _, _, rfl, rfl, (by show (0 : Int) < 2147483587; decide), ?_⟩
      generalize hX : (cells.getD sp 0 % 2147483629 + 48611 * (t : Int) + 12007) ^ ((3 : Int).toNat) = X3
      have m0 := Int.emod_nonneg X3 (show (2147483587 : Int) ≠ 0 by decide)
      have m1 := Int.emod_lt_of_pos X3 (show (0 : Int) < 2147483587 by decide)
      have e3 : 6007 * (t : Int) * (t : Int) = 6007 * ((t : Int) * (t : Int)) := Int.mul_assoc _ _ _
      refine ⟨.int (X3 % 2147483587), rfl, .int (t : Int), rfl, _, _, rfl, rfl, .inl ⟨by decide, by decide⟩, .int (t : Int), rfl, _, _, rfl, rfl, .inr ⟨by omega, by omega⟩, _, _, rfl, rfl, _, _, rfl, rfl, _, _, rfl, rfl, ⟨by decide, by decide, by omega⟩, _, _, rfl, rfl, (by show (0 : Int) < 2147483563; decide), ?_⟩
      generalize hY : (X3 % 2147483587 + 6007 * (t : Int) * (t : Int) + 53) ^ ((3 : Int).toNat) = Y3
      refine ⟨.int (Y3 % 2147483563), rfl, _, _, rfl, rfl, .inr ⟨by decide, by decide⟩, .int (X3 % 2147483587), rfl, _, _, rfl, rfl, _, _, rfl, rfl, (by show (0 : Int) < 4611686018427387847; decide), .int m, rfl, _, _, rfl, rfl, hm0, ?_⟩
      generalize hZ : (Y3 % 2147483563 * 2147483423 + X3 % 2147483587) % 4611686018427387847 = Z
      have hz := Int.emod_nonneg Z (by omega : m ≠ 0)
      have hl := Int.emod_lt_of_pos Z hm0
      dsimp only
      rw [show Z % m = ((Z % m).toNat : Int) from (Int.toNat_of_nonneg hz).symm]
      exact q _ _ (by omega) ⟨⟨cells, rests, t + 1, hd1, hc1, hr1, hlen, h0, h64, by omega, hpos⟩, dc, dr, cr⟩ k1
end
section
variable {P : Program} {w : World} {K : PySem.W.Frag} {mg : Str → Option Value} {base : Heap}
def sp_one (K : PySem.W.Frag) : Sp := fun vs H Q _ => ∃ (d c r : Addr) (n : Nat) (l : Addr) (xs : List V), vs = [.ref d, .ref l] ∧ Dr H d c r n ∧ n ≤ 900000 ∧ SqL K H l xs ∧ l ≠ d ∧ l ≠ r ∧ 0 < xs.length ∧ xs.length ≤ 1000 ∧
  ∀ (H' : Hp) (i : Nat) (v : V), xs[i]? = some v → Dr H' d c r (n + 1) → Kp d r H H' → Q v H'
theorem ok_one {f fN : Addr} {fd fdN : FuncData} (F : Fun K "_law_one" "_law_one" s_L_one f fd) (DN : Df K mg "_law_next" s_L_next fN fdN ["_law_drawn", "_law_many"]) (B : Bi mg) : FnOk P w K mg base CX0 2 f fd ["_law_drawn", "_law_items"] (sp_one K) := by
  have GN : FnOk P w K mg base CX0 1 fN fdN ["_law_drawn", "_law_many"] sp_next := ok_next DN.F B
  refine F.ok sc_L_one (fun vs H Q E h => ?_) (fun cdv A outer s H vs Q E hr h => ?_)
  · obtain ⟨d, c, r, n, l, xs, rfl, _⟩ := h
    rfl
  · obtain ⟨d, c, r, n, l, xs, rfl, hD, hn, hl, ld, lr, h0, h1, q⟩ := h
    refine ⟨_, pss_one (ps_ret (pe_ix ix_list (pv 1) (pe_cl DN GN hr (pa_cons (pv 0) (pa_cons (pe_len B (pv 1)) pa_nil))) (fun _ _ => rfl))), ?_⟩
    refine ⟨.ref l, rfl, .ref d, rfl, .ref l, rfl, l, xs, rfl, .inl hl, d, c, r, n, _, rfl, hD, hn, by omega, by omega, fun H' k hk hD' kp => ?_⟩
    have hk' : k < xs.length := by omega
    exact ⟨l, xs, k, xs[k], rfl, rfl, kp.sqL ld lr hl, atI_nat (List.getElem?_eq_getElem hk'), q H' k _ (List.getElem?_eq_getElem hk') hD' kp⟩
/-! ### a count -/
def sp_count : Sp := fun vs H Q _ => ∃ (d c r : Addr) (n : Nat) (m : Int), vs = [.ref d, .int m] ∧ Dr H d c r n ∧ n ≤ 800000 ∧ 1 ≤ m ∧ m ≤ 1000 ∧
  ∀ (H' : Hp) (k : Nat), 1 ≤ k → (k : Int) ≤ m → Dr H' d c r (n + 3) → Kp d r H H' → Q (.int (k : Int)) H'
theorem ok_count {f fN : Addr} {fd fdN : FuncData} (F : Fun K "_law_count" "_law_count" s_L_count f fd) (DN : Df K mg "_law_next" s_L_next fN fdN ["_law_drawn", "_law_many"]) (B : Bi mg) : FnOk P w K mg base CX0 2 f fd ["_law_drawn", "_law_most"] sp_count := by
  have GN : FnOk P w K mg base CX0 1 fN fdN ["_law_drawn", "_law_many"] sp_next := ok_next DN.F B
  refine F.ok sc_L_count (fun vs H Q E h => ?_) (fun cdv A outer s H vs Q E hr h => ?_)
  · obtain ⟨d, c, r, n, m, rfl, _⟩ := h
    rfl
  · obtain ⟨d, c, r, n, m, rfl, hD, hn, h1, h2, q⟩ := h
    refine ⟨_, pss_one (ps_ret (pe_ix ix_list (pe_lst (pa_cons (pv 1) (pa_cons (pe_op op_add pe_int (pe_cl DN GN hr (pa_cons (pv 0) (pa_cons (pv 1) pa_nil))))
      (pa_cons (pe_op op_add pe_int (pe_cl DN GN hr (pa_cons (pv 0) (pa_cons (pe_callB (call_min2 rfl) (by rfl) B.min (by decide +kernel) (pa_cons (pv 1) (pa_cons pe_int pa_nil))) pa_nil)))) pa_nil))))
      (pe_cl DN GN hr (pa_cons (pv 0) (pa_cons pe_int pa_nil))) (fun _ _ => rfl))), ?_⟩
    refine ⟨.int m, rfl, .ref d, rfl, .int m, rfl, d, c, r, n, m, rfl, hD, by omega, by omega, by omega, fun H1 k1 l1 D1 kp1 => ?_⟩
    refine ⟨_, _, rfl, rfl, .ref d, rfl, .int m, rfl, _, _, rfl, d, c, r, n + 1, _, rfl, D1, by omega, ?_, ?_, fun H2 k2 l2 D2 kp2 => ?_⟩
    · split <;> omega
    · split <;> omega
    refine ⟨_, _, rfl, rfl, (by show 3 ≤ sizeLine; decide), fun p hp => ?_⟩
    have kp12 := kp1.trans kp2
    refine ⟨.ref d, rfl, d, c, r, n + 2, 3, rfl, D2.new hp, by omega, by decide, by decide, fun H3 k3 l3 D3 kp3 => ?_⟩
    have np := D2.ne hp
    have hp3 : H3 p = _ := kp3 p _ upd_same np.1 np.2.2
    have kp : Kp d r H H3 := kp12.trans ((Kp.new hp).trans kp3)
    have lm : (if (4 : Int) < m then (4 : Int) else m) ≤ m := by split <;> omega
    match k3, l3 with
    | 0, _ => exact ⟨p, _, 0, .int m, rfl, rfl, SqL.of hp3, rfl, by rw [show m = (m.toNat : Int) from (Int.toNat_of_nonneg (by omega)).symm]; exact q H3 m.toNat (by omega) (by omega) D3 kp⟩
    | 1, _ => exact ⟨p, _, 1, .int (1 + (k1 : Int)), rfl, rfl, SqL.of hp3, rfl, by rw [show 1 + (k1 : Int) = ((1 + k1 : Nat) : Int) by omega]; exact q H3 (1 + k1) (by omega) (by omega) D3 kp⟩
    | 2, _ => exact ⟨p, _, 2, .int (1 + (k2 : Int)), rfl, rfl, SqL.of hp3, rfl, by rw [show 1 + (k2 : Int) = ((1 + k2 : Nat) : Int) by omega]; exact q H3 (1 + k2) (by omega) (by omega) D3 kp⟩
    | k + 3, l3 => omega
end
section
variable {P : Program} {w : World} {K : PySem.W.Frag} {mg : Str → Option Value} {base : Heap}
/-! ### levels to choose from -/
def GrOk (ns : List Int) : Prop := 0 < ns.length ∧ ns.length ≤ 8 ∧ ∀ x ∈ ns, LvOk x
def sp_grades : Sp := fun vs H Q _ => ∃ (d c r : Addr) (n : Nat), vs = [.ref d] ∧ Dr H d c r n ∧ n ≤ 800000 ∧
  ∀ (H' : Hp) (g : Addr) (ns : List Int), H g = none → H' g = some (.lst (ns.map V.int)) → GrOk ns → Dr H' d c r (n + 9) → Kp d r H H' → g ≠ d → g ≠ c → g ≠ r → Q (.ref g) H'
theorem ok_grades {f fN : Addr} {fd fdN : FuncData} (F : Fun K "_law_grades" "_law_grades" s_L_grades f fd) (DN : Df K mg "_law_next" s_L_next fN fdN ["_law_drawn", "_law_many"]) (B : Bi mg) : FnOk P w K mg base CX0 2 f fd ["_law_drawn"] sp_grades := by
  have GN : FnOk P w K mg base CX0 1 fN fdN ["_law_drawn", "_law_many"] sp_next := ok_next DN.F B
  refine F.ok sc_L_grades (fun vs H Q E h => ?_) (fun cdv A outer s H vs Q E hr h => ?_)
  · obtain ⟨d, c, r, n, rfl, _⟩ := h
    rfl
  · obtain ⟨d, c, r, n, rfl, hD, hn, q⟩ := h
    have nd := sc_L_grades.nd
    refine ⟨_, pss_cons (ps_par (i := 1) (j := 2) rfl nd rfl rfl (by decide) rfl rfl (pa_cons (pe_cl DN GN hr (pa_cons (pv 0) (pa_cons pe_int pa_nil))) (pa_cons (pe_op op_add pe_int (pe_cl DN GN hr (pa_cons (pv 0) (pa_cons pe_int pa_nil)))) pa_nil)) rfl)
      (pss_cons (ps_set (i := 3) nd rfl (.inr rfl) (pe_ix ix_list (pe_lst (pa_cons pe_int (pa_cons pe_int (pa_cons pe_int (pa_cons pe_int (pa_cons (pe_op op_pow pe_int pe_int) pa_nil)))))) (pv 1) (fun _ _ => rfl)))
      (pss_cons (ps_setLc (i := 4) (own := [("_law_k", 5)]) (g := gName 5) (tt := tYes) rfl nd rfl rfl (sw_true rfl rfl rfl (by decide +kernel)) (pi_range1 rfl B.range (pa_cons (pv 2) pa_nil)) (blkOk_by (N := N_L_grades) (sc := defScope s_L_grades) (by decide +kernel))
        (fun _ _ _ _ _ => pg_name (i := 5) nd rfl (.inl rfl)) (fun _ _ _ _ _ => pts_nil)
        (fun _ _ _ _ _ => pe_op op_add pe_int (pe_cl DN GN hr (pa_cons (pv 0) (pa_cons (pv 3) pa_nil)))))
      (pss_one (ps_ret (pe_callB (cr_sortedSet rfl) (by rfl) B.sorted (by decide +kernel) (pa_cons (pe_callTy (cr_setL1 rfl) (by rfl) B.set (by decide +kernel)
        (pa_cons (pe_op op_cat (pv 4) (pe_op op_rep (pe_lst (pa_cons (pe_op op_pow pe_int pe_int) pa_nil)) (pe_callTy call_int1 (by rfl) B.int (by decide +kernel) (pa_cons (pe_cmpR op_eq (pe_cl DN GN hr (pa_cons (pv 0) (pa_cons pe_int pa_nil))) pe_int (nomark _)) pa_nil)))) pa_nil)) pa_nil)))))), ?_⟩
    refine ⟨.ref d, rfl, d, c, r, n, 5, rfl, hD, by omega, by decide, by decide, fun H1 k1 l1 D1 kp1 => ?_⟩
    refine ⟨.ref d, rfl, d, c, r, n + 1, 6, rfl, D1, by omega, by decide, by decide, fun H2 k2 l2 D2 kp2 => ?_⟩
    refine ⟨_, _, rfl, rfl, _, _, rfl, ?_⟩
    have kp12 := kp1.trans kp2
    -- wide
    refine ⟨_, _, rfl, rfl, ⟨by decide, by decide, by decide⟩, (by show 5 ≤ sizeLine; decide), fun p hp => ?_⟩
    have D3 : Dr (upd H2 p (.lst [.int 2, .int 4, .int 12, .int 100, .int (10 ^ (12 : Int).toNat)])) d c r (n + 2) := D2.new hp
    obtain ⟨wd, hwd, w0, w1⟩ : ∃ wd : Int, atI [V.int 2, .int 4, .int 12, .int 100, .int (10 ^ (12 : Int).toNat)] (k1 : Int) = some (.int wd) ∧ 0 < wd ∧ wd ≤ 1000000000000 := by
      match k1, l1 with
      | 0, _ => exact ⟨2, rfl, by decide, by decide⟩
      | 1, _ => exact ⟨4, rfl, by decide, by decide⟩
      | 2, _ => exact ⟨12, rfl, by decide, by decide⟩
      | 3, _ => exact ⟨100, rfl, by decide, by decide⟩
      | 4, _ => exact ⟨10 ^ (12 : Int).toNat, rfl, by decide, by decide⟩
      | k + 5, l => omega
    refine ⟨.int (k1 : Int), rfl, p, _, _, _, rfl, rfl, SqL.of upd_same, hwd, ?_⟩
    have kp3 : Kp d r H (upd H2 p (.lst [.int 2, .int 4, .int 12, .int 100, .int (10 ^ (12 : Int).toNat)])) := kp12.trans (Kp.new hp)
    generalize upd H2 p (.lst [.int 2, .int 4, .int 12, .int 100, .int (10 ^ (12 : Int).toNat)]) = H3 at D3 kp3
    -- the found ones
    refine ⟨.int (1 + (k2 : Int)), rfl, _, rfl, by omega, by omega, fun D hDn => lc_range (n := (1 + (k2 : Int)).toNat) (fun i Hx => ∃ ns : List Int, Hx D = some (.lst (ns.map V.int)) ∧ ns.length = i ∧ (∀ x ∈ ns, LvOk x) ∧ Dr Hx d c r (n + 2 + i) ∧ Kp d r H3 Hx) ⟨[], upd_same, rfl, fun x hx => by simp at hx, D3.new hDn, Kp.new hDn⟩ (fun i Hx hi hP => ?_) (fun Hx hP => ?_)⟩
    · obtain ⟨ns, h1, h2, h3, h4, h5⟩ := hP
      refine ⟨rfl, .ref d, rfl, .int wd, rfl, d, c, r, n + 2 + i, wd, rfl, h4, by omega, w0, w1, fun H4 k4 l4 D4 kp4 => ?_⟩
      have nD := D3.ne hDn
      have hD4 : H4 D = some (.lst (ns.map V.int)) := kp4 D _ h1 nD.1 nD.2.2
      refine ⟨_, _, rfl, rfl, ns.map V.int, hD4, by rw [List.length_map]; exact small1000 (by omega), ns ++ [1 + (k4 : Int)], ?_, by rw [List.length_append, h2]; rfl, ?_, D4.upd nD.1 nD.2.1 nD.2.2, ?_⟩
      · rw [upd_same, List.map_append]; rfl
      · intro x hx
        rcases List.mem_append.mp hx with hx | hx
        · exact h3 x hx
        · rw [List.mem_singleton.mp hx]; exact ⟨by omega, by omega⟩
      · intro b o e n1 n2
        by_cases hb : b = D
        · rw [hb, hDn] at e; cases e
        · rw [upd_ne hb]; exact kp4 b o (h5 b o e n1 n2) n1 n2
    · obtain ⟨ns, h1, h2, h3, h4, h5⟩ := hP
      have nD := D3.ne hDn
      have e2 : (1 + (k2 : Int)).toNat = 1 + k2 := by omega
      rw [e2] at h2 h4
      -- sorted(set(found + [10 ** 12] * int(next == 0)))
      refine ⟨.ref D, rfl, _, _, rfl, rfl, ⟨by decide, by decide, by decide⟩, (by show 1 ≤ sizeLine; decide), fun p5 hp5 => ?_⟩
      refine ⟨.ref d, rfl, d, c, r, n + 2 + (1 + k2), 8, rfl, h4.new hp5, by omega, by decide, by decide, fun H6 k6 l6 D6 kp6 => ?_⟩
      have np5 := h4.ne hp5
      have hp6 : H6 p5 = some (.lst [.int (10 ^ (12 : Int).toNat)]) := kp6 p5 _ upd_same np5.1 np5.2.2
      have hD6 : H6 D = some (.lst (ns.map V.int)) := kp6 D _ (by rw [upd_ne (ne_of_none h1 hp5)]; exact h1) nD.1 nD.2.2
      obtain ⟨kk, ek, ekk⟩ : ∃ kk : Int, (if decide (V.int (k6 : Int) = V.int 0) = true then (1 : Int) else 0) = kk ∧ (kk = 0 ∨ kk = 1) := ⟨_, rfl, by split <;> simp⟩
      refine ⟨rfl, .inr ⟨_, rfl, ?_⟩⟩
      rw [ek]
      refine ⟨p5, kk, _, rfl, rfl, hp6, by omega, by omega, ?_, fun p7 hp7 => ?_⟩
      · show 1 * kk.toNat ≤ sizeLine
        rcases ekk with e | e <;> rw [e] <;> decide
      obtain ⟨ms, em, lm, hm⟩ : ∃ ms : List Int, (List.replicate kk.toNat [V.int (10 ^ (12 : Int).toNat)]).flatten = ms.map V.int ∧ ms.length ≤ 1 ∧ ∀ x ∈ ms, LvOk x := by
        rcases ekk with e | e
        · exact ⟨[], by rw [e]; rfl, by decide, fun x hx => by simp at hx⟩
        · exact ⟨[10 ^ (12 : Int).toNat], by rw [e]; rfl, by decide, fun x hx => by rw [List.mem_singleton.mp hx]; exact ⟨by decide, by decide⟩⟩
      rw [em]
      have hD7 : (upd H6 p7 (.lst (ms.map V.int))) D = some (.lst (ns.map V.int)) := by rw [upd_ne (ne_of_none hD6 hp7)]; exact hD6
      refine ⟨D, p7, _, _, rfl, rfl, hD7, upd_same, ?_, fun p8 hp8 => ?_⟩
      · rw [List.length_map, List.length_map]; exact Nat.le_of_lt (small1000 (by omega))
      rw [← List.map_append]
      refine ⟨p8, ns ++ ms, rfl, SqL.of upd_same, by rw [List.length_append]; omega, fun p9 cn hp9 hcn => ?_⟩
      refine ⟨p9, _, cn, rfl, upd_same, by rw [List.length_append] at hcn; omega, fun out g hsort hmem hlen hg => ?_⟩
      have D7 := D6.new (o := .lst (ms.map V.int)) hp7
      have D8 := D7.new (o := .lst ((ns ++ ms).map V.int)) hp8
      have D9 := D8.new (o := SetO w p9 (fun j => decide (j ∈ ns ++ ms)) cn) hp9
      have D10 := D9.new (o := .lst (out.map V.int)) hg
      have ng := D9.ne hg
      have kpE : Kp d r H _ := kp3.trans (h5.trans ((Kp.new (o := .lst [.int (10 ^ (12 : Int).toNat)]) hp5).trans (kp6.trans ((Kp.new (o := .lst (ms.map V.int)) hp7).trans ((Kp.new (o := .lst ((ns ++ ms).map V.int)) hp8).trans ((Kp.new (o := SetO w p9 (fun j => decide (j ∈ ns ++ ms)) cn) hp9).trans (Kp.new (o := .lst (out.map V.int)) hg)))))))
      have hgH : H g = none := by
        cases e : H g with
        | none => rfl
        | some o =>
          have z := (kp3.trans (h5.trans ((Kp.new (o := .lst [.int (10 ^ (12 : Int).toNat)]) hp5).trans (kp6.trans ((Kp.new (o := .lst (ms.map V.int)) hp7).trans ((Kp.new (o := .lst ((ns ++ ms).map V.int)) hp8).trans (Kp.new (o := SetO w p9 (fun j => decide (j ∈ ns ++ ms)) cn) hp9))))))) g o e ng.1 ng.2.2
          have hg' : upd (upd (upd H6 p7 (.lst (ms.map V.int))) p8 (.lst ((ns ++ ms).map V.int))) p9 (SetO w p9 (fun j => decide (j ∈ ns ++ ms)) cn) g = none := hg
          rw [hg'] at z
          cases z
      have mem : ∀ x, x ∈ out ↔ x ∈ ns ++ ms := fun x => by rw [hmem x]; exact decide_eq_true_iff
      refine q _ g out hgH upd_same ⟨?_, ?_, fun x hx => ?_⟩ (D10.mono (by omega)) kpE ng.1 ng.2.1 ng.2.2
      · have h0 : 0 < ns.length := by omega
        have : ns[0] ∈ out := (mem _).mpr (List.mem_append_left _ (List.getElem_mem h0))
        exact List.length_pos_of_mem this
      · rw [List.length_append] at hcn
        omega
      · rcases List.mem_append.mp ((mem x).mp hx) with hx | hx
        · exact h3 x hx
        · exact hm x hx
end
section
variable {P : Program} {w : World} {K : PySem.W.Frag} {mg : Str → Option Value} {base : Heap}
/-! ### the level between two -/
theorem min_nat (i j : Nat) : (if (j : Int) < (i : Int) then (j : Int) else (i : Int)) = ((min i j : Nat) : Int) := by
  split <;> omega
theorem max_nat (i j : Nat) : (if (j : Int) > (i : Int) then (j : Int) else (i : Int)) = ((max i j : Nat) : Int) := by
  split <;> omega
def sp_level (K : PySem.W.Frag) : Sp := fun vs H Q _ => ∃ (a : Addr) (xs : List V) (t : List (List Int)) (i j : Nat), vs = [.ref a, .int (i : Int), .int (j : Int)] ∧ (SqL K H a xs ∨ SqT K H a xs) ∧ Rows K H xs t ∧ WT t ∧ i < t.length ∧ j < t.length ∧ Q (.int (lev t i j)) H
theorem ok_level {f : Addr} {fd : FuncData} {k : Nat} (F : Fun K "_law_level" "_law_level" s_L_level f fd) (B : Bi mg) : FnOk P w K mg base CX0 (k + 1) f fd ["_law_table_here", "_law_one_here", "_law_other"] (sp_level K) := by
  refine F.ok sc_L_level (fun vs H Q E h => ?_) (fun cdv A outer s H vs Q E hr h => ?_)
  · obtain ⟨a, xs, t, i, j, rfl, _⟩ := h
    rfl
  · obtain ⟨a, xs, t, i, j, rfl, hS, hR, hW, hi, hj, q⟩ := h
    have nd := sc_L_level.nd
    refine ⟨_, pss_cons (ps_par (i := 3) (j := 4) rfl nd rfl rfl (by decide) rfl rfl (pa_cons (pe_callB (call_min2 rfl) (by rfl) B.min (by decide +kernel) (pa_cons (pv 1) (pa_cons (pv 2) pa_nil))) (pa_cons (pe_callB (call_max2 rfl) (by rfl) B.max (by decide +kernel) (pa_cons (pv 1) (pa_cons (pv 2) pa_nil))) pa_nil)) rfl)
      (pss_one (ps_ret (pe_ifExp (pt_cmpR op_eq (pv 3) (pv 4) (nomark _)) pe_int (pe_ix ix_tup (pe_ix (IxR.or ix_list ix_tup) (pv 0) (pv 4) (fun _ _ => rfl)) (pv 3) (fun _ _ => rfl))))), ?_⟩
    refine ⟨.int (i : Int), rfl, .int (j : Int), rfl, _, _, rfl, .int (i : Int), rfl, .int (j : Int), rfl, _, _, rfl, _, _, rfl, ?_⟩
    rw [min_nat, max_nat]
    refine ⟨.int ((min i j : Nat) : Int), rfl, .int ((max i j : Nat) : Int), rfl, rfl, _, rfl, ite2 (fun e => ?_) (fun e => ?_)⟩
    · have e1 : ((min i j : Nat) : Int) = ((max i j : Nat) : Int) := V.int.inj (of_decide_eq_true e)
      have e2 : i = j := by omega
      have e3 : lev t i j = 0 := by unfold lev; rw [if_pos e2]
      rw [e3] at q
      exact q
    · have e2 : i ≠ j := fun z => e (decide_eq_true (by rw [z]; simp))
      have hm : max i j < t.length := by omega
      obtain ⟨v, p, hv, rfl, hp⟩ := hR.get hm
      obtain ⟨l1, l2⟩ := hW.row hm
      have hl : min i j < (t.getD (max i j) []).length := by omega
      have e3 : lev t i j = (t.getD (max i j) []).getD (min i j) 0 := by unfold lev; rw [if_neg e2]
      rw [e3] at q
      refine ⟨.ref a, rfl, .int ((max i j : Nat) : Int), rfl, ?_⟩
      rcases hS with hS | hS
      · exact .inl ⟨a, xs, _, _, rfl, rfl, hS, atI_nat hv, .int ((min i j : Nat) : Int), rfl, p, _, _, _, rfl, rfl, hp, atI_nat (map_at (getD_at hl)), q⟩
      · exact .inr ⟨a, xs, _, _, rfl, rfl, hS, atI_nat hv, .int ((min i j : Nat) : Int), rfl, p, _, _, _, rfl, rfl, hp, atI_nat (map_at (getD_at hl)), q⟩
/-! ### nested tables -/
def sp_nested (K : PySem.W.Frag) : Sp := fun vs H Q _ => ∃ (d c r : Addr) (n cnt : Nat) (g : Addr) (gs : List Int), vs = [.ref d, .int (cnt : Int), .ref g] ∧ Dr H d c r n ∧ n ≤ 800000 ∧ 1 ≤ cnt ∧ cnt ≤ 20 ∧ SqL K H g (gs.map V.int) ∧ g ≠ d ∧ g ≠ r ∧ GrOk gs ∧
  ∀ (H' : Hp) (v : V) (t : List (List Int)), TT K H' v t → WT t → t.length = cnt → Dr H' d c r (n + 2 * cnt) → Kp d r H H' → Q v H'
theorem ok_nested {f fN fO fL : Addr} {fd fdN fdO fdL : FuncData} (F : Fun K "_law_nested" "_law_nested" s_L_nested f fd) (DN : Df K mg "_law_next" s_L_next fN fdN ["_law_drawn", "_law_many"]) (DO : Df K mg "_law_one" s_L_one fO fdO ["_law_drawn", "_law_items"])
    (DL : Df K mg "_law_level" s_L_level fL fdL ["_law_table_here", "_law_one_here", "_law_other"]) (B : Bi mg) : FnOk P w K mg base CX0 3 f fd ["_law_drawn", "_law_count_here", "_law_grades_here"] (sp_nested K) := by
  have GN : FnOk P w K mg base CX0 1 fN fdN ["_law_drawn", "_law_many"] sp_next := ok_next DN.F B
  have GO : FnOk P w K mg base CX0 2 fO fdO ["_law_drawn", "_law_items"] (sp_one K) := ok_one DO.F DN B
  have GL : FnOk P w K mg base CX0 1 fL fdL ["_law_table_here", "_law_one_here", "_law_other"] (sp_level K) := ok_level DL.F B
  refine F.ok sc_L_nested (fun vs H Q E h => ?_) (fun cdv A outer s H vs Q E hr h => ?_)
  · obtain ⟨d, c, r, n, cnt, g, gs, rfl, _⟩ := h
    rfl
  · obtain ⟨d, c, r, n, cnt, g, gs, rfl, hD, hn, hc1, hc2, hg, gd, gr, hG, q⟩ := h
    have nd := sc_L_nested.nd
    have hr1 := hr.mono (show 1 ≤ 2 by decide)
    refine ⟨_, pss_cons (ps_set (i := 3) nd rfl (.inr rfl) (pe_lst (pa_cons (pe_tup pa_nil) pa_nil)))
      (pss_cons (ps_while PassesOwn.never (pt_cmpR op_lt (pe_len B (pv 3)) (pv 1) (nomark _))
        (pss_cons (ps_asg (pe_tup (pa_cons (pe_cl DN GN hr1 (pa_cons (pv 0) (pa_cons (pe_len B (pv 3)) pa_nil))) (pa_cons (pe_cl DO GO hr (pa_cons (pv 0) (pa_cons (pv 2) pa_nil))) pa_nil)))
            (pg_tup rfl (pgs_cons (pg_name (i := 4) nd rfl (.inr rfl)) (pgs_cons (pg_name (i := 5) nd rfl (.inr rfl)) pgs_nil))))
        (pss_cons (ps_setLc (i := 6) (own := [("_law_k", 7)]) (g := gName 7) (tt := tYes) rfl nd rfl rfl (sw_true rfl rfl rfl (by decide +kernel)) (pi_range1 rfl B.range (pa_cons (pe_len B (pv 3)) pa_nil)) (blkOk_by (N := N_L_nested) (sc := defScope s_L_nested) (by decide +kernel))
          (fun _ _ _ _ _ => pg_name (i := 7) nd rfl (.inl rfl)) (fun _ _ _ _ _ => pts_nil)
          (fun _ _ _ _ _ => pe_callB (call_max2 rfl) (by rfl) B.max (by decide +kernel) (pa_cons (pv 5) (pa_cons (pe_cl DL GL hr1 (pa_cons (pv 3) (pa_cons (pv 4) (pa_cons (pv 7) pa_nil)))) pa_nil))))
        (pss_one (ps_expr (pe_bm PySem.F.plainAttrs_list PySem.F.slot_list_append PySem.F.type_list_append mt_append (pv 3) (pa_cons (pe_callTy call_tuple_of (by rfl) B.tuple (by decide +kernel) (pa_cons (pv 6) pa_nil)) pa_nil)))))))
      (pss_one (ps_ret (pe_callTy call_tuple_of (by rfl) B.tuple (by decide +kernel) (pa_cons (pv 3) pa_nil))))), ?_⟩
    -- rows = [()]
    refine ⟨Nat.zero_le _, fun p0 hp0 => ⟨(by show 1 ≤ sizeLine; decide), fun rw hrw => ?_⟩⟩
    have D0 := (hD.new (o := .tup []) hp0).new (o := .lst [.ref p0]) hrw
    have k0 : Kp d r H (upd (upd H p0 (.tup [])) rw (.lst [.ref p0])) := (Kp.new hp0).trans (Kp.new hrw)
    have nrw := (hD.new (o := .tup []) hp0).ne hrw
    have hrwH : H rw = none := Sm.free (Sm.new (o := .tup []) hp0) hrw
    refine ⟨fun m σ Hx => ∃ x4 x5 x6 xs t, σ = [some (.ref d), some (.int (cnt : Int)), some (.ref g), some (.ref rw), x4, x5, x6, none] ∧ Hx rw = some (.lst xs) ∧ Rows K Hx xs t ∧ WT t ∧ 0 < t.length ∧ t.length ≤ cnt ∧ m = cnt - t.length ∧ Dr Hx d c r (n + 2 * t.length) ∧ Kp d r H Hx,
      ⟨cnt - 1, none, none, none, [.ref p0], [[]], rfl, upd_same, ?_, ?_, by decide, by show 1 ≤ cnt; exact hc1, rfl, D0.mono (by omega), k0⟩, fun m σ Hx hW => ?_⟩
    · refine (Rows.nil.snoc (v := .ref p0) (ns := []) ⟨p0, rfl, SqT.of ?_⟩)
      rw [upd_ne (ne_of_none upd_same hrw)]
      exact upd_same
    · exact WT.nil.snoc rfl (fun x hx => by simp at hx)
    obtain ⟨x4, x5, x6, xs, t, rfl, hx, hR, hT, ht0, htc, rfl, hDx, hk⟩ := hW
    have hxl : xs.length = t.length := hR.1
    have nD := hDx
    refine ⟨.ref rw, rfl, rw, xs, rfl, .inl (SqL.of hx), .int (cnt : Int), rfl, _, _, rfl, rfl, _, rfl, ite2 (fun e => ?_) (fun e => ?_)⟩
    · have e1 : (xs.length : Int) < (cnt : Int) := of_decide_eq_true e
      have e2 : t.length < cnt := by omega
      refine ⟨fun σ' H' => ∃ x4 x5 x6 xs t', σ' = [some (.ref d), some (.int (cnt : Int)), some (.ref g), some (.ref rw), x4, x5, x6, none] ∧ H' rw = some (.lst xs) ∧ Rows K H' xs t' ∧ WT t' ∧ t'.length = t.length + 1 ∧ Dr H' d c r (n + 2 * (t.length + 1)) ∧ Kp d r H H', fun σ' H' hN => ?_, ?_⟩
      · obtain ⟨y4, y5, y6, ys, t', h1, h2, h3, h4, h5, h6, h7⟩ := hN
        exact ⟨cnt - t'.length, by omega, y4, y5, y6, ys, t', h1, h2, h3, h4, by omega, by omega, rfl, by rw [h5]; exact h6, h7⟩
      -- near, level
      refine ⟨.ref d, rfl, .ref rw, rfl, rw, xs, rfl, .inl (SqL.of hx), d, c, r, _, _, rfl, hDx, by omega, by omega, by omega, fun H1 k1 l1 D1 kp1 => ?_⟩
      refine ⟨.ref d, rfl, .ref g, rfl, d, c, r, _, g, gs.map V.int, rfl, D1, by omega, (hk.trans kp1).sqL gd gr hg, gd, gr, by rw [List.length_map]; exact hG.1, by rw [List.length_map]; have := hG.2.1; omega, fun H2 i2 v2 hv2 D2 kp2 => ?_⟩
      obtain ⟨lv, hlv, rfl⟩ : ∃ lv : Int, LvOk lv ∧ v2 = .int lv := by
        rw [List.getElem?_map] at hv2
        cases e3 : gs[i2]? with
        | none => rw [e3] at hv2; cases hv2
        | some z =>
          rw [e3] at hv2
          exact ⟨z, hG.2.2 z (List.mem_of_getElem? e3), (Option.some.inj hv2).symm⟩
      refine ⟨(by show 2 ≤ sizeLine; decide), fun p3 hp3 => ?_⟩
      refine ⟨p3, _, rfl, SqT.of upd_same, rfl, _, _, rfl, _, _, rfl, rfl, ?_⟩
      have kp12 := kp1.trans kp2
      have hx2 : H2 rw = some (.lst xs) := kp12 rw _ hx nrw.1 nrw.2.2
      have R2 : Rows K H2 xs t := hR.kp hDx kp12
      have D3 := D2.new (o := .tup [.int (k1 : Int), .int lv]) hp3
      have R3 : Rows K (upd H2 p3 (.tup [.int (k1 : Int), .int lv])) xs t := R2.same (Sm.new hp3)
      have hx3 : (upd H2 p3 (.tup [.int (k1 : Int), .int lv])) rw = some (.lst xs) := Sm.new hp3 _ _ hx2
      have k3 : Kp d r H (upd H2 p3 (.tup [.int (k1 : Int), .int lv])) := hk.trans (kp12.trans (Kp.new hp3))
      generalize upd H2 p3 (.tup [.int (k1 : Int), .int lv]) = H3 at D3 R3 hx3 k3
      -- row
      refine ⟨.ref rw, rfl, rw, xs, rfl, .inl (SqL.of hx3), _, rfl, by omega, by omega, fun D hDn => lc_range (n := (xs.length : Int).toNat) (fun i Hy => ∃ ns : List Int, Hy D = some (.lst (ns.map V.int)) ∧ ns.length = i ∧ (∀ x ∈ ns, LvOk x) ∧ Sm H3 Hy) ⟨[], upd_same, rfl, fun x hx => by simp at hx, Sm.new hDn⟩ (fun i Hy hi hP => ?_) (fun Hy hP => ?_)⟩
      · obtain ⟨ns, h1, h2, h3, h4⟩ := hP
        have hi' : i < t.length := by omega
        refine ⟨rfl, .int lv, rfl, .ref rw, rfl, .int (k1 : Int), rfl, .int (0 + (i : Int)), rfl, rw, xs, t, k1, i, by rw [Int.zero_add]; rfl, .inl (SqL.of (h4 _ _ hx3)), R3.same h4, hT, by omega, hi', ?_⟩
        refine ⟨_, _, rfl, ns.map V.int, h1, by rw [List.length_map]; exact small1000 (by omega), ns ++ [if lev t k1 i > lv then lev t k1 i else lv], ?_, by rw [List.length_append, h2]; rfl, ?_, ?_⟩
        · rw [upd_same, List.map_append]; rfl
        · intro x hx
          rcases List.mem_append.mp hx with hx | hx
          · exact h3 x hx
          · rw [List.mem_singleton.mp hx]
            by_cases e4 : k1 = i
            · have e5 : lev t k1 i = 0 := by unfold lev; rw [if_pos e4]
              rw [e5, if_neg (by have := hlv.1; omega)]
              exact hlv
            · have e5 := hT.lev (i := k1) (j := i) (by omega) hi' e4
              split
              · exact e5
              · exact hlv
        · intro b o e
          have hb : b ≠ D := ne_of_none e hDn
          rw [upd_ne hb]
          exact h4 b o e
      · obtain ⟨ns, h1, h2, h3, h4⟩ := hP
        have h2' : ns.length = t.length := by omega
        have hx4 := h4 _ _ hx3
        -- rows.append(tuple(row))
        refine ⟨.ref rw, rfl, .inl ⟨rfl, _, SqL.of hx4⟩, .ref D, rfl, D, _, rfl, .inl ⟨SqL.of h1, fun p5 hp5 => ?_⟩⟩
        have hx5 : (upd Hy p5 (.tup (ns.map V.int))) rw = some (.lst xs) := Sm.new hp5 _ _ hx4
        refine ⟨rw, _, _, rfl, rfl, hx5, small1000 (by omega), ?_⟩
        have R5 : Rows K (upd Hy p5 (.tup (ns.map V.int))) (xs ++ [.ref p5]) (t ++ [ns]) := ((R3.same h4).same (Sm.new hp5)).snoc ⟨p5, rfl, SqT.of upd_same⟩
        refine ⟨_, _, _, _, _, rfl, upd_same, R5.upd hx5, hT.snoc h2' h3, by rw [List.length_append]; rfl, ?_, ?_⟩
        · exact (((D3.same h4).new hp5).upd nrw.1 nrw.2.1 nrw.2.2).mono (by omega)
        · intro b o e n1 n2
          have hb : b ≠ rw := ne_of_none e hrwH
          rw [upd_ne hb]
          exact Sm.new hp5 _ _ (h4 _ _ (k3 b o e n1 n2))
    · have e1 : ¬ (xs.length : Int) < (cnt : Int) := fun z => e (decide_eq_true z)
      have e2 : t.length = cnt := by omega
      refine ⟨.ref rw, rfl, rw, xs, rfl, .inl ⟨SqL.of hx, fun p hp => ?_⟩⟩
      exact q _ _ t ⟨p, xs, rfl, SqT.of upd_same, hR.same (Sm.new hp)⟩ hT e2 ((hDx.new hp).mono (by omega)) (hk.trans (Kp.new hp))
end
section
variable {P : Program} {w : World} {K : PySem.W.Frag} {mg : Str → Option Value} {base : Heap}
/-! ### rows of levels -/
def sp_levels (K : PySem.W.Frag) : Sp := fun vs H Q _ => ∃ (d c r : Addr) (n m : Nat) (g : Addr) (gs : List Int), vs = [.ref d, .int (m : Int), .ref g] ∧ Dr H d c r n ∧ n ≤ 800000 ∧ m ≤ 20 ∧ SqL K H g (gs.map V.int) ∧ g ≠ d ∧ g ≠ r ∧ GrOk gs ∧
  ∀ (H' : Hp) (v : V) (ns : List Int), IT K H' v ns → ns.length = m → (∀ x ∈ ns, LvOk x) → Dr H' d c r (n + m) → Kp d r H H' → Q v H'
theorem gr_at {gs : List Int} {i : Nat} {v : V} (h : ∀ x ∈ gs, LvOk x) (e : (gs.map V.int)[i]? = some v) : ∃ lv : Int, LvOk lv ∧ v = .int lv := by
  rw [List.getElem?_map] at e
  cases e3 : gs[i]? with
  | none => rw [e3] at e; cases e
  | some z =>
    rw [e3] at e
    exact ⟨z, h z (List.mem_of_getElem? e3), (Option.some.inj e).symm⟩
theorem ok_levels {f fN fO : Addr} {fd fdN fdO : FuncData} (F : Fun K "_law_levels" "_law_levels" s_L_levels f fd) (DN : Df K mg "_law_next" s_L_next fN fdN ["_law_drawn", "_law_many"]) (DO : Df K mg "_law_one" s_L_one fO fdO ["_law_drawn", "_law_items"]) (B : Bi mg) :
    FnOk P w K mg base CX0 3 f fd ["_law_drawn", "_law_many", "_law_grades_here"] (sp_levels K) := by
  have GO : FnOk P w K mg base CX0 2 fO fdO ["_law_drawn", "_law_items"] (sp_one K) := ok_one DO.F DN B
  refine F.ok sc_L_levels (fun vs H Q E h => ?_) (fun cdv A outer s H vs Q E hr h => ?_)
  · obtain ⟨d, c, r, n, m, g, gs, rfl, _⟩ := h
    rfl
  · obtain ⟨d, c, r, n, m, g, gs, rfl, hD, hn, hm, hg, gd, gr, hG, q⟩ := h
    have nd := sc_L_levels.nd
    refine ⟨_, pss_one (ps_ret (pe_callTy call_tuple_of (by rfl) B.tuple (by decide +kernel) (pa_cons (pe_lc (own := [("_law_k", 3)]) (g := gName 3) (tt := tYes) rfl nd (pi_range1 rfl B.range (pa_cons (pv 1) pa_nil)) (blkOk_by (N := N_L_levels) (sc := defScope s_L_levels) (by decide +kernel))
      (fun _ _ _ _ _ => pg_name (i := 3) nd rfl (.inl rfl)) (fun _ _ _ _ _ => pts_nil) (fun _ _ _ _ _ => pe_cl DO GO hr (pa_cons (pv 0) (pa_cons (pv 2) pa_nil)))) pa_nil))), ?_⟩
    refine ⟨.int (m : Int), rfl, _, rfl, by omega, by omega, fun D hDn => lc_range (n := (m : Int).toNat) (fun i Hx => ∃ ns : List Int, Hx D = some (.lst (ns.map V.int)) ∧ ns.length = i ∧ (∀ x ∈ ns, LvOk x) ∧ Dr Hx d c r (n + i) ∧ Kp d r H Hx) ⟨[], upd_same, rfl, fun x hx => by simp at hx, hD.new hDn, Kp.new hDn⟩ (fun i Hx hi hP => ?_) (fun Hx hP => ?_)⟩
    · obtain ⟨ns, h1, h2, h3, h4, h5⟩ := hP
      have nD := hD.ne hDn
      refine ⟨rfl, .ref d, rfl, .ref g, rfl, d, c, r, n + i, g, gs.map V.int, rfl, h4, by omega, h5.sqL gd gr hg, gd, gr, by rw [List.length_map]; exact hG.1, by rw [List.length_map]; have := hG.2.1; omega, fun H2 i2 v2 hv2 D2 kp2 => ?_⟩
      obtain ⟨lv, hlv, rfl⟩ := gr_at hG.2.2 hv2
      have hD2 : H2 D = some (.lst (ns.map V.int)) := kp2 D _ h1 nD.1 nD.2.2
      refine ⟨ns.map V.int, hD2, by rw [List.length_map]; exact small1000 (by omega), ns ++ [lv], ?_, by rw [List.length_append, h2]; rfl, ?_, D2.upd nD.1 nD.2.1 nD.2.2, ?_⟩
      · rw [upd_same, List.map_append]; rfl
      · intro x hx
        rcases List.mem_append.mp hx with hx | hx
        · exact h3 x hx
        · rw [List.mem_singleton.mp hx]; exact hlv
      · intro b o e n1 n2
        rw [upd_ne (ne_of_none e hDn)]
        exact kp2 b o (h5 b o e n1 n2) n1 n2
    · obtain ⟨ns, h1, h2, h3, h4, h5⟩ := hP
      have e2 : (m : Int).toNat = m := by omega
      rw [e2] at h2 h4
      refine ⟨D, _, rfl, .inl ⟨SqL.of h1, fun p hp => ?_⟩⟩
      exact q _ _ ns ⟨p, rfl, SqT.of upd_same⟩ h2 h3 (h4.new hp) (h5.trans (Kp.new hp))
def sp_any (K : PySem.W.Frag) : Sp := fun vs H Q _ => ∃ (d c r : Addr) (n m : Nat) (wd : Int), vs = [.ref d, .int (m : Int), .int wd] ∧ Dr H d c r n ∧ n ≤ 800000 ∧ m ≤ 20 ∧ 0 < wd ∧ wd ≤ 1000000000000 ∧
  ∀ (H' : Hp) (v : V) (ns : List Int), IT K H' v ns → ns.length = m → (∀ x ∈ ns, LvOk x) → Dr H' d c r (n + m) → Kp d r H H' → Q v H'
theorem ok_any {f fN : Addr} {fd fdN : FuncData} (F : Fun K "_law_any" "_law_any" s_L_any f fd) (DN : Df K mg "_law_next" s_L_next fN fdN ["_law_drawn", "_law_many"]) (B : Bi mg) :
    FnOk P w K mg base CX0 3 f fd ["_law_drawn", "_law_many", "_law_wide"] (sp_any K) := by
  have GN : FnOk P w K mg base CX0 2 fN fdN ["_law_drawn", "_law_many"] sp_next := ok_next DN.F B
  refine F.ok sc_L_any (fun vs H Q E h => ?_) (fun cdv A outer s H vs Q E hr h => ?_)
  · obtain ⟨d, c, r, n, m, wd, rfl, _⟩ := h
    rfl
  · obtain ⟨d, c, r, n, m, wd, rfl, hD, hn, hm, w0, w1, q⟩ := h
    have nd := sc_L_any.nd
    refine ⟨_, pss_one (ps_ret (pe_callTy call_tuple_of (by rfl) B.tuple (by decide +kernel) (pa_cons (pe_lc (own := [("_law_k", 3)]) (g := gName 3) (tt := tYes) rfl nd (pi_range1 rfl B.range (pa_cons (pv 1) pa_nil)) (blkOk_by (N := N_L_any) (sc := defScope s_L_any) (by decide +kernel))
      (fun _ _ _ _ _ => pg_name (i := 3) nd rfl (.inl rfl)) (fun _ _ _ _ _ => pts_nil) (fun _ _ _ _ _ => pe_op op_add pe_int (pe_cl DN GN hr (pa_cons (pv 0) (pa_cons (pv 2) pa_nil))))) pa_nil))), ?_⟩
    refine ⟨.int (m : Int), rfl, _, rfl, by omega, by omega, fun D hDn => lc_range (n := (m : Int).toNat) (fun i Hx => ∃ ns : List Int, Hx D = some (.lst (ns.map V.int)) ∧ ns.length = i ∧ (∀ x ∈ ns, LvOk x) ∧ Dr Hx d c r (n + i) ∧ Kp d r H Hx) ⟨[], upd_same, rfl, fun x hx => by simp at hx, hD.new hDn, Kp.new hDn⟩ (fun i Hx hi hP => ?_) (fun Hx hP => ?_)⟩
    · obtain ⟨ns, h1, h2, h3, h4, h5⟩ := hP
      have nD := hD.ne hDn
      refine ⟨rfl, .ref d, rfl, .int wd, rfl, d, c, r, n + i, wd, rfl, h4, by omega, w0, w1, fun H2 k2 l2 D2 kp2 => ?_⟩
      have hD2 : H2 D = some (.lst (ns.map V.int)) := kp2 D _ h1 nD.1 nD.2.2
      refine ⟨_, _, rfl, rfl, ns.map V.int, hD2, by rw [List.length_map]; exact small1000 (by omega), ns ++ [1 + (k2 : Int)], ?_, by rw [List.length_append, h2]; rfl, ?_, D2.upd nD.1 nD.2.1 nD.2.2, ?_⟩
      · rw [upd_same, List.map_append]; rfl
      · intro x hx
        rcases List.mem_append.mp hx with hx | hx
        · exact h3 x hx
        · rw [List.mem_singleton.mp hx]; exact ⟨by omega, by omega⟩
      · intro b o e n1 n2
        rw [upd_ne (ne_of_none e hDn)]
        exact kp2 b o (h5 b o e n1 n2) n1 n2
    · obtain ⟨ns, h1, h2, h3, h4, h5⟩ := hP
      have e2 : (m : Int).toNat = m := by omega
      rw [e2] at h2 h4
      refine ⟨D, _, rfl, .inl ⟨SqL.of h1, fun p hp => ?_⟩⟩
      exact q _ _ ns ⟨p, rfl, SqT.of upd_same⟩ h2 h3 (h4.new hp) (h5.trans (Kp.new hp))
/-! ### levels raised -/
def sp_raised (K : PySem.W.Frag) : Sp := fun vs H Q _ => ∃ (d c r : Addr) (n : Nat) (tv : V) (t : List (List Int)) (g : Addr) (gs : List Int), vs = [.ref d, tv, .ref g] ∧ Dr H d c r n ∧ n ≤ 800000 ∧ TT K H tv t ∧ WT t ∧ t.length ≤ 20 ∧ H g = some (.lst (gs.map V.int)) ∧ g ≠ d ∧ g ≠ r ∧ GrOk gs ∧
  ∀ (H' : Hp) (v : V) (t' : List (List Int)), TT K H' v t' → WT t' → t'.length = t.length → Dr H' d c r (n + 400) → Kp d r H H' → Q v H'
theorem ok_raised {f fN fO : Addr} {fd fdN fdO : FuncData} (F : Fun K "_law_raised" "_law_raised" s_L_raised f fd) (DN : Df K mg "_law_next" s_L_next fN fdN ["_law_drawn", "_law_many"]) (DO : Df K mg "_law_one" s_L_one fO fdO ["_law_drawn", "_law_items"]) (B : Bi mg) :
    FnOk P w K mg base CX0 3 f fd ["_law_drawn", "_law_table_here", "_law_grades_here"] (sp_raised K) := by
  have GO : FnOk P w K mg base CX0 2 fO fdO ["_law_drawn", "_law_items"] (sp_one K) := ok_one DO.F DN B
  refine F.ok sc_L_raised (fun vs H Q E h => ?_) (fun cdv A outer s H vs Q E hr h => ?_)
  · obtain ⟨d, c, r, n, tv, t, g, gs, rfl, _⟩ := h
    rfl
  · obtain ⟨d, c, r, n, tv, t, g, gs, rfl, hD, hn, ⟨tp, rs, rfl, htp, hR⟩, hT, h20, hg, gd, gr, hG, q⟩ := h
    have nd := sc_L_raised.nd
    refine ⟨_, pss_cons (ps_set (i := 3) nd rfl (.inl rfl) (pe_lst pa_nil))
      (pss_cons (ps_for PassesOwn.never rfl (pi_tup (pv 1)) (pg_name (i := 4) nd rfl (.inl rfl))
        (pss_one (ps_expr (pe_bm PySem.F.plainAttrs_list PySem.F.slot_list_append PySem.F.type_list_append mt_append (pv 3) (pa_cons (pe_callTy call_tuple_of (by rfl) B.tuple (by decide +kernel) (pa_cons
          (pe_lc (own := [("_law_level_here", 5)]) (g := gName 5) (tt := tYes) rfl nd (pi_tup (pv 4)) (blkOk_by (N := N_L_raised) (sc := defScope s_L_raised) (by decide +kernel))
            (fun _ _ _ _ _ => pg_name (i := 5) nd rfl (.inl rfl)) (fun _ _ _ _ _ => pts_nil) (fun _ _ _ _ _ => pe_callB (call_max2 rfl) (by rfl) B.max (by decide +kernel) (pa_cons (pv 5) (pa_cons (pe_cl DO GO hr (pa_cons (pv 0) (pa_cons (pe_op op_cat (pv 2) (pe_lst (pa_cons pe_int (pa_cons pe_int pa_nil)))) pa_nil))) pa_nil)))) pa_nil)) pa_nil)))))
      (pss_one (ps_ret (pe_callTy call_tuple_of (by rfl) B.tuple (by decide +kernel) (pa_cons (pv 3) pa_nil))))), ?_⟩
    refine ⟨Nat.zero_le _, fun o ho => ?_⟩
    have no := hD.ne ho
    refine ⟨.ref tp, rfl, tp, rfl, ⟨_, (Sm.new ho).sqT htp⟩, for_tup (xs := rs) (fun i σ Hx => ∃ x4 xs t', σ = [some (.ref d), some (.ref tp), some (.ref g), some (.ref o), x4, none] ∧ Hx o = some (.lst xs) ∧ Rows K Hx xs t' ∧ WT t' ∧ t'.length = i ∧ Dr Hx d c r (n + 20 * i) ∧ Kp d r H Hx)
      ⟨none, [], [], rfl, upd_same, Rows.nil, WT.nil, rfl, hD.new ho, Kp.new ho⟩ (fun i σ Hx hi hP => ?_) (fun i v σ Hx hv hP => ?_) (fun σ Hx hP => ?_)⟩
    · obtain ⟨x4, xs, t', _, _, _, _, _, _, hk⟩ := hP
      exact hD.kpT hk htp
    · obtain ⟨x4, xs, t', rfl, hx, hR', hT', hl, hDx, hk⟩ := hP
      have hir : i < rs.length := (List.getElem?_eq_some_iff.mp hv).1
      have hit : i < t.length := by rw [← hR.1]; exact hir
      obtain ⟨v', p, hv', rfl, hp⟩ := hR.get hit
      obtain rfl : v = .ref p := Option.some.inj (hv.symm.trans hv')
      obtain ⟨l1, l2⟩ := hT.row hit
      have hpx := hD.kpT hk hp
      refine ⟨.ref o, rfl, .inl ⟨rfl, _, SqL.of hx⟩, .ref p, rfl, p, rfl, ⟨_, hpx⟩, fun D hDn => lc_tup (xs := (t.getD i []).map V.int) (fun j Hy => ∃ ns : List Int, Hy D = some (.lst (ns.map V.int)) ∧ ns.length = j ∧ (∀ x ∈ ns, LvOk x) ∧ Dr Hy d c r (n + 20 * i + j) ∧ Kp d r Hx Hy) ⟨[], upd_same, rfl, fun x hx => by simp at hx, hDx.new hDn, Kp.new hDn⟩ (fun j Hy hj hP => ?_) (fun j y Hy hy hP => ?_) (fun Hy hP => ?_)⟩
      · obtain ⟨ns, _, _, _, _, h5⟩ := hP
        exact hDx.kpT h5 hpx
      · obtain ⟨ns, h1, h2, h3, h4, h5⟩ := hP
        obtain ⟨y0, hy0, rfl⟩ := gr_at l2 hy
        have hj : j < i := by
          have := (List.getElem?_eq_some_iff.mp hy).1
          rw [List.length_map] at this
          omega
        have nD := hDx.ne hDn
        have hgy : Hy g = some (.lst (gs.map V.int)) := h5 g _ (hk g _ hg gd gr) gd gr
        refine ⟨rfl, .int y0, rfl, .ref d, rfl, .ref g, rfl, (by show 2 ≤ sizeLine; decide), fun p1 hp1 => ?_⟩
        have hg1 : (upd Hy p1 (.lst [.int 1, .int 1])) g = some (.lst (gs.map V.int)) := Sm.new hp1 _ _ hgy
        refine ⟨g, p1, _, _, rfl, rfl, hg1, upd_same, by rw [List.length_map]; have := hG.2.1; exact Nat.le_of_lt (small1000 (show gs.length + 2 ≤ 1000 by omega)), fun p2 hp2 => ?_⟩
        have Dy2 := (h4.new (o := .lst [.int 1, .int 1]) hp1).new (o := .lst (gs.map V.int ++ [.int 1, .int 1])) hp2
        have np2 := (h4.new (o := .lst [.int 1, .int 1]) hp1).ne hp2
        refine ⟨d, c, r, _, p2, _, rfl, Dy2, by omega, SqL.of upd_same, np2.1, np2.2.2, by rw [List.length_append]; show 0 < _ + 2; omega, by rw [List.length_append, List.length_map]; have := hG.2.1; show _ + 2 ≤ 1000; omega, fun H3 i3 v3 hv3 D3 kp3 => ?_⟩
        obtain ⟨lv, hlv, rfl⟩ : ∃ lv : Int, LvOk lv ∧ v3 = .int lv := by
          refine gr_at (gs := gs ++ [1, 1]) (fun x hx => ?_) (by rw [List.map_append]; exact hv3)
          rcases List.mem_append.mp hx with hx | hx
          · exact hG.2.2 x hx
          · rcases List.mem_cons.mp hx with hx | hx
            · rw [hx]; exact ⟨by decide, by decide⟩
            · rw [List.mem_singleton.mp hx]; exact ⟨by decide, by decide⟩
        have kq : Kp d r Hy H3 := ((Kp.new hp1).trans (Kp.new hp2)).trans kp3
        have hD3 : H3 D = some (.lst (ns.map V.int)) := kq D _ h1 nD.1 nD.2.2
        refine ⟨_, _, rfl, ns.map V.int, hD3, by rw [List.length_map]; exact small1000 (by omega), ns ++ [if lv > y0 then lv else y0], ?_, by rw [List.length_append, h2]; rfl, ?_, (D3.upd nD.1 nD.2.1 nD.2.2), ?_⟩
        · rw [upd_same, List.map_append]; rfl
        · intro x hx
          rcases List.mem_append.mp hx with hx | hx
          · exact h3 x hx
          · rw [List.mem_singleton.mp hx]
            split
            · exact hlv
            · exact hy0
        · intro b u e n1 n2
          rw [upd_ne (ne_of_none e hDn)]
          exact kq b u (h5 b u e n1 n2) n1 n2
      · obtain ⟨ns, h1, h2, h3, h4, h5⟩ := hP
        rw [List.length_map, l1] at h2 h4
        have hxy : Hy o = some (.lst xs) := h5 o _ hx no.1 no.2.2
        refine ⟨D, _, rfl, .inl ⟨SqL.of h1, fun p5 hp5 => ?_⟩⟩
        have hx5 : (upd Hy p5 (.tup (ns.map V.int))) o = some (.lst xs) := Sm.new hp5 _ _ hxy
        have hxl : xs.length = i := by rw [hR'.1, hl]
        refine ⟨o, _, _, rfl, rfl, hx5, small1000 (by omega), ?_⟩
        have R5 : Rows K (upd Hy p5 (.tup (ns.map V.int))) (xs ++ [.ref p5]) (t' ++ [ns]) := ((hR'.kp hDx h5).same (Sm.new hp5)).snoc ⟨p5, rfl, SqT.of upd_same⟩
        refine ⟨_, _, _, rfl, upd_same, R5.upd hx5, hT'.snoc (by omega) h3, by rw [List.length_append, hl]; rfl, ((h4.new hp5).upd no.1 no.2.1 no.2.2).mono (by omega), ?_⟩
        intro b u e n1 n2
        rw [upd_ne (ne_of_none e ho)]
        exact Sm.new hp5 _ _ (h5 b u (hk b u e n1 n2) n1 n2)
    · obtain ⟨x4, xs, t', rfl, hx, hR', hT', hl, hDx, hk⟩ := hP
      refine ⟨.ref o, rfl, o, xs, rfl, .inl ⟨SqL.of hx, fun p hp => ?_⟩⟩
      have hrl := hR.1
      exact q _ _ t' ⟨p, xs, rfl, SqT.of upd_same, hR'.same (Sm.new hp)⟩ hT' (by omega) ((hDx.new hp).mono (by omega)) (hk.trans (Kp.new hp))
end
section
variable {P : Program} {w : World} {K : PySem.W.Frag} {mg : Str → Option Value} {base : Heap}
/-! ### tables -/
def sp_table (K : PySem.W.Frag) : Sp := fun vs H Q _ => ∃ (d c r : Addr) (n cnt : Nat), vs = [.ref d, .int (cnt : Int)] ∧ Dr H d c r n ∧ n ≤ 700000 ∧ 1 ≤ cnt ∧ cnt ≤ 20 ∧
  ∀ (H' : Hp) (v : V) (t : List (List Int)), TT K H' v t → WT t → t.length = cnt → Dr H' d c r (n + 500) → Kp d r H H' → Q v H'
structure DrawDefs (K : PySem.W.Frag) (mg : Str → Option Value) : Prop where
  B : Bi mg
  next : ∃ f fd, Df K mg "_law_next" s_L_next f fd ["_law_drawn", "_law_many"]
  one : ∃ f fd, Df K mg "_law_one" s_L_one f fd ["_law_drawn", "_law_items"]
  count : ∃ f fd, Df K mg "_law_count" s_L_count f fd ["_law_drawn", "_law_most"]
  grades : ∃ f fd, Df K mg "_law_grades" s_L_grades f fd ["_law_drawn"]
  level : ∃ f fd, Df K mg "_law_level" s_L_level f fd ["_law_table_here", "_law_one_here", "_law_other"]
  nested : ∃ f fd, Df K mg "_law_nested" s_L_nested f fd ["_law_drawn", "_law_count_here", "_law_grades_here"]
  raised : ∃ f fd, Df K mg "_law_raised" s_L_raised f fd ["_law_drawn", "_law_table_here", "_law_grades_here"]
  levels : ∃ f fd, Df K mg "_law_levels" s_L_levels f fd ["_law_drawn", "_law_many", "_law_grades_here"]
  any : ∃ f fd, Df K mg "_law_any" s_L_any f fd ["_law_drawn", "_law_many", "_law_wide"]
theorem tabs_rows {α : Type} {H H' : Hp} {d c r D : Addr} {n : Nat} {vs : List V} {t : List (List Int)} {v : V} {ns : List Int} (hR : Rows K H vs t) (g : Dr H d c r n) (e : Kp d r H H') (q : IT K H' v ns) : Rows K H' (vs ++ [v]) (t ++ [ns]) := (hR.kp g e).snoc q
theorem ok_table {f : Addr} {fd : FuncData} (F : Fun K "_law_table" "_law_table" s_L_table f fd) (T : DrawDefs K mg) : FnOk P w K mg base CX0 4 f fd ["_law_drawn", "_law_count_here"] (sp_table K) := by
  have B := T.B
  obtain ⟨fN, fdN, DN⟩ := T.next
  obtain ⟨fO, fdO, DO⟩ := T.one
  obtain ⟨fG, fdG, DG⟩ := T.grades
  obtain ⟨fL, fdL, DL⟩ := T.level
  obtain ⟨fE, fdE, DE⟩ := T.nested
  obtain ⟨fR, fdR, DR⟩ := T.raised
  obtain ⟨fS, fdS, DS⟩ := T.levels
  obtain ⟨fA, fdA, DA⟩ := T.any
  have GN : FnOk P w K mg base CX0 3 fN fdN ["_law_drawn", "_law_many"] sp_next := ok_next DN.F B
  have GO : FnOk P w K mg base CX0 3 fO fdO ["_law_drawn", "_law_items"] (sp_one K) := (ok_one DO.F DN B).mono (by decide)
  have GG : FnOk P w K mg base CX0 3 fG fdG ["_law_drawn"] sp_grades := (ok_grades DG.F DN B).mono (by decide)
  have GE : FnOk P w K mg base CX0 3 fE fdE ["_law_drawn", "_law_count_here", "_law_grades_here"] (sp_nested K) := ok_nested DE.F DN DO DL B
  have GR : FnOk P w K mg base CX0 3 fR fdR ["_law_drawn", "_law_table_here", "_law_grades_here"] (sp_raised K) := ok_raised DR.F DN DO B
  have GS : FnOk P w K mg base CX0 3 fS fdS ["_law_drawn", "_law_many", "_law_grades_here"] (sp_levels K) := ok_levels DS.F DN DO B
  have GA : FnOk P w K mg base CX0 3 fA fdA ["_law_drawn", "_law_many", "_law_wide"] (sp_any K) := ok_any DA.F DN B
  refine F.ok sc_L_table (fun vs H Q E h => ?_) (fun cdv A outer s H vs Q E hr h => ?_)
  · obtain ⟨d, c, r, n, cnt, rfl, _⟩ := h
    rfl
  · obtain ⟨d, c, r, n, cnt, rfl, hD, hn, c1, c2, q⟩ := h
    have nd := sc_L_table.nd
    refine ⟨_, pss_cons (ps_asg (pe_tup (pa_cons (pe_cl DG GG hr (pa_cons (pv 0) pa_nil)) (pa_cons (pe_cl DN GN hr (pa_cons (pv 0) (pa_cons pe_int pa_nil))) pa_nil)))
            (pg_tup rfl (pgs_cons (pg_name (i := 2) nd rfl (.inr rfl)) (pgs_cons (pg_name (i := 3) nd rfl (.inl rfl)) pgs_nil))))
      (pss_cons (ps_if (pt_cmpR op_eq (pv 3) pe_int (nomark _)) (pss_one (ps_ret (pe_callTy call_tuple_of (by rfl) B.tuple (by decide +kernel) (pa_cons
          (pe_lc (own := [("_law_one_here", 4)]) (g := gName 4) (tt := tYes) rfl nd (pi_range1 rfl B.range (pa_cons (pv 1) pa_nil)) (blkOk_by (N := N_L_table) (sc := defScope s_L_table) (by decide +kernel))
            (fun _ _ _ _ _ => pg_name (i := 4) nd rfl (.inl rfl)) (fun _ _ _ _ _ => pts_nil) (fun _ _ _ _ _ => pe_cl DS GS hr (pa_cons (pv 0) (pa_cons (pv 4) (pa_cons (pv 2) pa_nil))))) pa_nil)))) pss_nil)
      (pss_cons (ps_if (pt_cmpR op_eq (pv 3) pe_int (nomark _)) (pss_cons (ps_set (i := 5) nd rfl (.inr rfl) (pe_cl DO GO hr (pa_cons (pv 0) (pa_cons (pe_lst (pa_cons pe_int (pa_cons pe_int (pa_cons (pe_op op_pow pe_int pe_int) pa_nil)))) pa_nil))))
          (pss_one (ps_ret (pe_callTy call_tuple_of (by rfl) B.tuple (by decide +kernel) (pa_cons
          (pe_lc (own := [("_law_one_here", 4)]) (g := gName 4) (tt := tYes) rfl nd (pi_range1 rfl B.range (pa_cons (pv 1) pa_nil)) (blkOk_by (N := N_L_table) (sc := defScope s_L_table) (by decide +kernel))
            (fun _ _ _ _ _ => pg_name (i := 4) nd rfl (.inl rfl)) (fun _ _ _ _ _ => pts_nil) (fun _ _ _ _ _ => pe_cl DA GA hr (pa_cons (pv 0) (pa_cons (pv 4) (pa_cons (pv 5) pa_nil))))) pa_nil))))) pss_nil)
      (pss_cons (ps_set (i := 6) nd rfl (.inl rfl) (pe_cl DE GE hr (pa_cons (pv 0) (pa_cons (pv 1) (pa_cons (pv 2) pa_nil)))))
      (pss_cons (ps_if (PW.pt (pw_or (pt_cmpR op_eq (pv 3) pe_int (nomark _)) (pw_or1 (pt_cmpR op_eq (pv 1) pe_int (nomark _))))) (pss_one (ps_ret (pv 6))) pss_nil)
      (pss_cons (ps_if (pt_cmpR op_eq (pv 3) pe_int (nomark _)) (pss_one (ps_ret (pe_cl DR GR hr (pa_cons (pv 0) (pa_cons (pv 6) (pa_cons (pv 2) pa_nil)))))) pss_nil)
      (pss_cons (ps_set (i := 4) nd rfl (.inl rfl) (pe_op op_add pe_int (pe_cl DN GN hr (pa_cons (pv 0) (pa_cons (pe_op op_sub (pv 1) pe_int) pa_nil)))))
      (pss_cons (ps_par (i := 7) (j := 8) rfl nd rfl rfl (by decide) rfl rfl (pa_cons (pe_cl DN GN hr (pa_cons (pv 0) (pa_cons (pv 4) pa_nil))) (pa_cons (pe_cl DO GO hr (pa_cons (pv 0) (pa_cons (pe_op op_cat (pv 2) (pe_lst (pa_cons pe_int (pa_cons (pe_op op_pow pe_int pe_int) pa_nil)))) pa_nil))) pa_nil)) rfl)
      (pss_cons (ps_set (i := 9) nd rfl (.inl rfl) (pe_op op_catW (pe_op op_catW (pe_slice sl_tupW (pe_ix ix_tup (pv 6) (pv 4) (fun _ _ => rfl)) po_none (po_some (pv 7))) (pe_tup (pa_cons (pv 8) pa_nil))) (pe_slice sl_tupW (pe_ix ix_tup (pv 6) (pv 4) (fun _ _ => rfl)) (po_some (pe_op op_add (pv 7) pe_int)) po_none)))
      (pss_one (ps_ret (pe_op op_catW (pe_op op_catW (pe_slice sl_tupW (pv 6) po_none (po_some (pv 4))) (pe_tup (pa_cons (pv 9) pa_nil))) (pe_slice sl_tupW (pv 6) (po_some (pe_op op_add (pv 4) pe_int)) po_none)))))))))))), ?_⟩
    -- grades, way
    refine ⟨.ref d, rfl, d, c, r, n, rfl, hD, by omega, fun H1 g gs hg0 hg1 hG D1 kp1 gd gc gr => ?_⟩
    refine ⟨.ref d, rfl, d, c, r, _, 5, rfl, D1, by omega, by decide, by decide, fun H2 way lw D2 kp2 => ?_⟩
    refine ⟨(by show 2 ≤ sizeLine; decide), fun p3 hp3 => ?_⟩
    refine ⟨p3, _, rfl, SqT.of upd_same, rfl, _, _, rfl, _, _, rfl, rfl, ?_⟩
    have hg2 : H2 g = some (.lst (gs.map V.int)) := kp2 g _ hg1 gd gr
    have hg3 : (upd H2 p3 (.tup [.ref g, .int (way : Int)])) g = some (.lst (gs.map V.int)) := Sm.new hp3 _ _ hg2
    have D3 := D2.new (o := .tup [.ref g, .int (way : Int)]) hp3
    have k3 : Kp d r H (upd H2 p3 (.tup [.ref g, .int (way : Int)])) := (kp1.trans kp2).trans (Kp.new hp3)
    generalize upd H2 p3 (.tup [.ref g, .int (way : Int)]) = H3 at D3 hg3 k3
    -- way 0
    refine ⟨.int (way : Int), rfl, rfl, _, rfl, ite2 (fun e => ?_) (fun e0 => ?_)⟩
    · refine ⟨.int (cnt : Int), rfl, _, rfl, by omega, by omega, fun D hDn => lc_range (n := (cnt : Int).toNat) (fun i Hx => ∃ xs t, Hx D = some (.lst xs) ∧ Rows K Hx xs t ∧ WT t ∧ t.length = i ∧ Dr Hx d c r (n + 10 + 20 * i) ∧ Kp d r H3 Hx) ⟨[], [], upd_same, Rows.nil, WT.nil, rfl, D3.new hDn, Kp.new hDn⟩ (fun i Hx hi hP => ?_) (fun Hx hP => ?_)⟩
      · obtain ⟨xs, t, h1, h2, h3, h4, h5, h6⟩ := hP
        have nD := D3.ne hDn
        refine ⟨rfl, .ref d, rfl, .int (0 + (i : Int)), rfl, .ref g, rfl, d, c, r, _, i, g, gs, by rw [Int.zero_add]; rfl, h5, by omega, by omega, SqL.of (h6 g _ hg3 gd gr), gd, gr, hG, fun H4 v ns hv hl hL D4 kp4 => ?_⟩
        have hD4 : H4 D = some (.lst xs) := kp4 D _ h1 nD.1 nD.2.2
        have hxl := h2.1
        refine ⟨xs, hD4, small1000 (by omega), xs ++ [v], t ++ [ns], upd_same, ((h2.kp h5 kp4).snoc hv).upd hD4, h3.snoc (by omega) hL, by rw [List.length_append, h4]; rfl, (D4.upd nD.1 nD.2.1 nD.2.2).mono (by omega), ?_⟩
        intro b o e n1 n2
        rw [upd_ne (ne_of_none e hDn)]
        exact kp4 b o (h6 b o e n1 n2) n1 n2
      · obtain ⟨xs, t, h1, h2, h3, h4, h5, h6⟩ := hP
        refine ⟨D, _, rfl, .inl ⟨SqL.of h1, fun p hp => ?_⟩⟩
        exact q _ _ t ⟨p, xs, rfl, SqT.of upd_same, h2.same (Sm.new hp)⟩ h3 (by omega) ((h5.new hp).mono (by omega)) (k3.trans (h6.trans (Kp.new hp)))
    -- way 1
    refine ⟨.int (way : Int), rfl, rfl, _, rfl, ite2 (fun e => ?_) (fun e1 => ?_)⟩
    · refine ⟨.ref d, rfl, _, _, rfl, rfl, ⟨by decide, by decide, by decide⟩, (by show 3 ≤ sizeLine; decide), fun p4 hp4 => ?_⟩
      have np4 := D3.ne hp4
      have D4 := D3.new (o := .lst [.int 3, .int 20, .int (10 ^ (12 : Int).toNat)]) hp4
      refine ⟨d, c, r, _, p4, _, rfl, D4, by omega, SqL.of upd_same, np4.1, np4.2.2, by decide, by decide, fun H5 i5 v5 hv5 D5 kp5 => ?_⟩
      obtain ⟨wd, rfl, w0, w1⟩ : ∃ wd : Int, v5 = .int wd ∧ 0 < wd ∧ wd ≤ 1000000000000 := by
        match i5, hv5 with
        | 0, h => exact ⟨3, (Option.some.inj h).symm, by decide, by decide⟩
        | 1, h => exact ⟨20, (Option.some.inj h).symm, by decide, by decide⟩
        | 2, h => exact ⟨10 ^ (12 : Int).toNat, (Option.some.inj h).symm, by decide, by decide⟩
        | k + 3, h => simp at h
      have k5 : Kp d r H H5 := k3.trans ((Kp.new hp4).trans kp5)
      refine ⟨.int (cnt : Int), rfl, _, rfl, by omega, by omega, fun D hDn => lc_range (n := (cnt : Int).toNat) (fun i Hx => ∃ xs t, Hx D = some (.lst xs) ∧ Rows K Hx xs t ∧ WT t ∧ t.length = i ∧ Dr Hx d c r (n + 11 + 20 * i) ∧ Kp d r H5 Hx) ⟨[], [], upd_same, Rows.nil, WT.nil, rfl, D5.new hDn, Kp.new hDn⟩ (fun i Hx hi hP => ?_) (fun Hx hP => ?_)⟩
      · obtain ⟨xs, t, h1, h2, h3, h4, h5, h6⟩ := hP
        have nD := D5.ne hDn
        refine ⟨rfl, .ref d, rfl, .int (0 + (i : Int)), rfl, .int wd, rfl, d, c, r, _, i, wd, by rw [Int.zero_add]; rfl, h5, by omega, by omega, w0, w1, fun H4 v ns hv hl hL D4 kp4 => ?_⟩
        have hD4 : H4 D = some (.lst xs) := kp4 D _ h1 nD.1 nD.2.2
        have hxl := h2.1
        refine ⟨xs, hD4, small1000 (by omega), xs ++ [v], t ++ [ns], upd_same, ((h2.kp h5 kp4).snoc hv).upd hD4, h3.snoc (by omega) hL, by rw [List.length_append, h4]; rfl, (D4.upd nD.1 nD.2.1 nD.2.2).mono (by omega), ?_⟩
        intro b o e n1 n2
        rw [upd_ne (ne_of_none e hDn)]
        exact kp4 b o (h6 b o e n1 n2) n1 n2
      · obtain ⟨xs, t, h1, h2, h3, h4, h5, h6⟩ := hP
        refine ⟨D, _, rfl, .inl ⟨SqL.of h1, fun p hp => ?_⟩⟩
        exact q _ _ t ⟨p, xs, rfl, SqT.of upd_same, h2.same (Sm.new hp)⟩ h3 (by omega) ((h5.new hp).mono (by omega)) (k5.trans (h6.trans (Kp.new hp)))
    -- a nested one
    refine ⟨.ref d, rfl, .int (cnt : Int), rfl, .ref g, rfl, d, c, r, _, cnt, g, gs, rfl, D3, by omega, c1, c2, SqL.of hg3, gd, gr, hG, fun H4 tv t hTT hWT htl D4 kp4 => ?_⟩
    have hg4 : H4 g = some (.lst (gs.map V.int)) := kp4 g _ hg3 gd gr
    have k4 : Kp d r H H4 := k3.trans kp4
    refine ⟨.int (way : Int), rfl, rfl, _, rfl, ?_⟩
    refine ite2 (fun e => iteT ⟨_, rfl, q H4 tv t hTT hWT htl (D4.mono (by omega)) k4⟩) (fun e2 => ?_)
    refine ⟨.int (cnt : Int), rfl, rfl, _, rfl, ite2 (fun e => ⟨_, rfl, q H4 tv t hTT hWT htl (D4.mono (by omega)) k4⟩) (fun e3 => ?_)⟩
    have hcnt : cnt ≠ 1 := fun z => e3 (decide_eq_true (by rw [z]; rfl))
    refine ⟨.int (way : Int), rfl, rfl, _, rfl, ite2 (fun e => ?_) (fun e4 => ?_)⟩
    · exact ⟨.ref d, rfl, _, rfl, .ref g, rfl, d, c, r, _, tv, t, g, gs, rfl, D4, by omega, hTT, hWT, by omega, hg4, gd, gr, hG, fun H5 v t' h1 h2 h3 D5 kp5 => q H5 v t' h1 h2 (by omega) (D5.mono (by omega)) (k4.trans kp5)⟩
    -- one level changed
    refine ⟨.ref d, rfl, .int (cnt : Int), rfl, _, _, rfl, rfl, d, c, r, _, _, rfl, D4, by omega, by omega, by omega, fun H5 k5 l5 D5 kp5 => ?_⟩
    refine ⟨_, _, rfl, rfl, ?_⟩
    dsimp only
    rw [show (1 : Int) + (k5 : Int) = ((1 + k5 : Nat) : Int) by omega]
    obtain ⟨o1, ho1⟩ : ∃ o1, o1 = 1 + k5 := ⟨_, rfl⟩
    rw [← ho1]
    have ho1l : o1 < cnt := by omega
    refine ⟨.ref d, rfl, .int (o1 : Int), rfl, d, c, r, _, _, rfl, D5, by omega, by omega, by omega, fun H6 k6 l6 D6 kp6 => ?_⟩
    have hg6 : H6 g = some (.lst (gs.map V.int)) := kp6 g _ (kp5 g _ hg4 gd gr) gd gr
    refine ⟨.ref d, rfl, .ref g, rfl, _, _, rfl, rfl, ⟨by decide, by decide, by decide⟩, (by show 2 ≤ sizeLine; decide), fun p7 hp7 => ?_⟩
    have hg7 : (upd H6 p7 (.lst [.int 1, .int (10 ^ (12 : Int).toNat)])) g = some (.lst (gs.map V.int)) := Sm.new hp7 _ _ hg6
    refine ⟨g, p7, _, _, rfl, rfl, hg7, upd_same, by rw [List.length_map]; have := hG.2.1; exact Nat.le_of_lt (small1000 (show gs.length + 2 ≤ 1000 by omega)), fun p8 hp8 => ?_⟩
    have D8 := (D6.new (o := .lst [.int 1, .int (10 ^ (12 : Int).toNat)]) hp7).new (o := .lst (gs.map V.int ++ [.int 1, .int (10 ^ (12 : Int).toNat)])) hp8
    have np8 := (D6.new (o := .lst [.int 1, .int (10 ^ (12 : Int).toNat)]) hp7).ne hp8
    refine ⟨d, c, r, _, p8, _, rfl, D8, by omega, SqL.of upd_same, np8.1, np8.2.2, by rw [List.length_append]; show 0 < _ + 2; omega, by rw [List.length_append, List.length_map]; have := hG.2.1; show _ + 2 ≤ 1000; omega, fun H9 i9 v9 hv9 D9 kp9 => ?_⟩
    obtain ⟨lv, hlv, rfl⟩ : ∃ lv : Int, LvOk lv ∧ v9 = .int lv := by
      refine gr_at (gs := gs ++ [1, 10 ^ (12 : Int).toNat]) (fun x hx => ?_) (by rw [List.map_append]; exact hv9)
      rcases List.mem_append.mp hx with hx | hx
      · exact hG.2.2 x hx
      · rcases List.mem_cons.mp hx with hx | hx
        · rw [hx]; exact ⟨by decide, by decide⟩
        · rw [List.mem_singleton.mp hx]; exact ⟨by decide, by decide⟩
    refine ⟨_, _, rfl, ?_⟩
    have kA : Kp d r H4 H9 := (kp5.trans kp6).trans (((Kp.new hp7).trans (Kp.new hp8)).trans kp9)
    have k9 : Kp d r H H9 := k4.trans kA
    obtain ⟨tp, rs, rfl, htp, hR⟩ := hTT.kp D4 kA
    have hrl := hR.1
    obtain ⟨rv, rp, hrv, rfl, hrp⟩ := hR.get (i := o1) (by omega)
    obtain ⟨l1, l2⟩ := hWT.row (i := o1) (by omega)
    have hk6 : k6 < o1 := by omega
    generalize hrow : t.getD o1 [] = row at hrp l1 l2
    -- row
    refine ⟨.ref tp, rfl, .int (o1 : Int), rfl, tp, rs, _, _, rfl, rfl, htp, atI_nat hrv, .int (k6 : Int), rfl, _, rfl, rp, _, rfl, hrp, fun pa Ha sa ha => ?_⟩
    refine ⟨.int lv, rfl, (by show 1 ≤ sizeLine; decide), fun pb hpb => ?_⟩
    have sb : Sm Ha (upd Ha pb (.tup [.int lv])) := Sm.new hpb
    refine ⟨pa, pb, _, _, rfl, rfl, sb.sqT ha, SqT.of upd_same, ?_, fun pc Hc sc hc => ?_⟩
    · have z := cutV_length (row.map V.int) none (some (k6 : Int))
      rw [List.length_map] at z
      exact Nat.le_of_lt (small1000 (show (cutV (row.map V.int) none (some (k6 : Int))).length + 1 ≤ 1000 by omega))
    have s1 := (sa.trans sb).trans sc
    refine ⟨.ref tp, rfl, .int (o1 : Int), rfl, tp, rs, _, _, rfl, rfl, s1.sqT htp, atI_nat hrv, .int (k6 : Int), rfl, _, _, rfl, rfl, _, rfl, rp, _, rfl, s1.sqT hrp, fun pd Hd sd hd => ?_⟩
    rw [show (k6 : Int) + 1 = ((k6 + 1 : Nat) : Int) by omega, cut_from] at hd
    rw [cut_to] at hc
    refine ⟨pc, pd, _, _, rfl, rfl, sd.sqT hc, hd, ?_, fun pe He se he => ?_⟩
    · rw [List.length_append, List.length_take, List.length_drop, List.length_map]
      exact Nat.le_of_lt (small1000 (show min k6 row.length + 1 + (row.length - (k6 + 1)) ≤ 1000 by omega))
    have s2 := (s1.trans sd).trans se
    rw [set_parts _ _ _ (by rw [List.length_map]; omega), ← List.map_set] at he
    -- the table
    refine ⟨.ref tp, rfl, .int (o1 : Int), rfl, _, rfl, tp, rs, rfl, s2.sqT htp, fun pf Hf sf hf => ?_⟩
    refine ⟨.ref pe, rfl, (by show 1 ≤ sizeLine; decide), fun pg hpg => ?_⟩
    have sg : Sm Hf (upd Hf pg (.tup [.ref pe])) := Sm.new hpg
    rw [cut_to] at hf
    refine ⟨pf, pg, _, _, rfl, rfl, sg.sqT hf, SqT.of upd_same, ?_, fun ph Hh sh hh => ?_⟩
    · rw [List.length_take]
      exact Nat.le_of_lt (small1000 (show min o1 rs.length + 1 ≤ 1000 by omega))
    have s3 := ((s2.trans sf).trans sg).trans sh
    refine ⟨.ref tp, rfl, .int (o1 : Int), rfl, _, _, rfl, rfl, _, rfl, tp, rs, rfl, s3.sqT htp, fun pi Hi si hi => ?_⟩
    rw [show (o1 : Int) + 1 = ((o1 + 1 : Nat) : Int) by omega, cut_from] at hi
    refine ⟨ph, pi, _, _, rfl, rfl, si.sqT hh, hi, ?_, fun pj Hj sj hj => ?_⟩
    · rw [List.length_append, List.length_take, List.length_drop]
      exact Nat.le_of_lt (small1000 (show min o1 rs.length + 1 + (rs.length - (o1 + 1)) ≤ 1000 by omega))
    rw [set_parts _ _ _ (by omega)] at hj
    have s4 := (s3.trans si).trans sj
    have s5 : Sm He Hj := ((((sf.trans sg).trans sh).trans si).trans sj)
    refine q Hj _ (t.set o1 (row.set k6 lv)) ⟨pj, rs.set o1 (.ref pe), rfl, hj, (hR.same s4).set ⟨pe, rfl, s5.sqT he⟩⟩ (hWT.set (by rw [List.length_set]; exact l1) (fun x hx => ?_)) (by rw [List.length_set]; exact htl) ((D9.same s4).mono (by omega)) (k9.trans s4.kp)
    rcases List.mem_or_eq_of_mem_set hx with hx | hx
    · exact l2 x hx
    · rw [hx]; exact hlv
end
section
variable {P : Program} {w : World} {K : PySem.W.Frag} {mg : Str → Option Value} {base : Heap}
/-! ### the beginning of a drawing -/
def sp_draws (K : PySem.W.Frag) : Sp := fun vs H Q _ => ∃ (a : Addr) (ns : List Int), vs = [.ref a] ∧ SqL K H a (ns.map V.int) ∧ ns.length ≤ 63 ∧ ∀ (H' : Hp) (d c r : Addr), Sm H H' → Dr H' d c r 0 → H d = none → H c = none → H r = none → Q (.ref d) H'
theorem ok_draws {f : Addr} {fd : FuncData} {k : Nat} (F : Fun K "_law_draws" "_law_draws" s_L_draws f fd) (B : Bi mg) : FnOk P w K mg base CX0 (k + 1) f fd ["_law_script"] (sp_draws K) := by
  refine F.ok sc_L_draws (fun vs H Q E h => ?_) (fun cdv A outer s H vs Q E hr h => ?_)
  · obtain ⟨a, ns, rfl, _⟩ := h
    rfl
  · obtain ⟨a, ns, rfl, hS, h63, q⟩ := h
    have nd := sc_L_draws.nd
    refine ⟨_, pss_cons (ps_set (i := 1) nd rfl (.inl rfl) (pe_op op_cat (pe_callTy call_list_of (by rfl) B.list (by decide +kernel) (pa_cons (pe_slice sl_list (pv 0) po_none (po_some pe_int)) pa_nil))
        (pe_op op_rep (pe_lst (pa_cons pe_int pa_nil)) (pe_callTy call_int1 (by rfl) B.int (by decide +kernel) (pa_cons (pe_cmpR op_eq (pe_len B (pv 0)) pe_int (nomark _)) pa_nil)))))
      (pss_one (ps_ret (pe_lst (pa_cons (pv 1) (pa_cons pe_int (pa_cons
        (pe_lc (own := [("_law_cell", 2)]) (g := gName 2) (tt := tYes) rfl nd (pi_list (pv 1)) (blkOk_by (N := N_L_draws) (sc := defScope s_L_draws) (by decide +kernel))
          (fun _ _ _ _ _ => pg_name (i := 2) nd rfl (.inl rfl)) (fun _ _ _ _ _ => pts_nil)
          (fun _ _ _ _ _ => pe_op op_mul (pv 2) (pe_callTy call_int1 (by rfl) B.int (by decide +kernel) (pa_cons (pe_cmpR op_ge (pv 2) (pe_op op_pow pe_int pe_int) (nomark _)) pa_nil)))) pa_nil)))))), ?_⟩
    refine ⟨.ref a, rfl, 63, rfl, a, _, rfl, hS, fun p1 hp1 => ?_⟩
    have e63 : cutV (ns.map V.int) none (some 63) = ns.map V.int := by
      rw [show (63 : Int) = ((63 : Nat) : Int) from rfl, cut_to]
      exact List.take_of_length_le (by rw [List.length_map]; exact h63)
    rw [e63]
    have s1 : Sm H (upd H p1 (.lst (ns.map V.int))) := Sm.new hp1
    refine ⟨p1, _, rfl, .inl (SqL.of upd_same), fun p2 hp2 => ?_⟩
    have s2 := s1.trans (Sm.new (o := .lst (ns.map V.int)) hp2)
    refine ⟨(by show 1 ≤ sizeLine; decide), fun p3 hp3 => ?_⟩
    have s3 := s2.trans (Sm.new (o := .lst [.int 0]) hp3)
    refine ⟨.ref a, rfl, a, _, rfl, .inl (s3.sqL hS), rfl, .inr ⟨_, rfl, ?_⟩⟩
    obtain ⟨kk, ek, ekk⟩ : ∃ kk : Nat, (if decide (V.int (((ns.map V.int).length : Nat) : Int) = V.int 0) = true then (1 : Int) else 0) = (kk : Int) ∧ (kk = if ns.length = 0 then 1 else 0) := by
      by_cases z : ns.length = 0
      · exact ⟨1, by rw [List.length_map, z]; rfl, by rw [if_pos z]⟩
      · refine ⟨0, ?_, by rw [if_neg z]⟩
        rw [List.length_map, decide_eq_false (fun e => z (by have := V.int.inj e; omega))]
        rfl
    rw [ek]
    have kk1 : kk ≤ 1 := by rw [ekk]; split <;> omega
    refine ⟨p3, _, _, rfl, rfl, upd_same, by omega, by omega, ?_, fun p4 hp4 => ?_⟩
    · show 1 * ((kk : Int).toNat) ≤ sizeLine
      exact Nat.le_of_lt (small1000 (by omega))
    obtain ⟨zs, ez, lz⟩ : ∃ zs : List Int, (List.replicate (kk : Int).toNat [V.int 0]).flatten = zs.map V.int ∧ zs.length = kk := by
      match kk, kk1 with
      | 0, _ => exact ⟨[], rfl, rfl⟩
      | 1, _ => exact ⟨[0], rfl, rfl⟩
    rw [ez]
    have s4 := s3.trans (Sm.new (o := .lst (zs.map V.int)) hp4)
    have h24 : (upd (upd (upd (upd H p1 (.lst (ns.map V.int))) p2 (.lst (ns.map V.int))) p3 (.lst [.int 0])) p4 (.lst (zs.map V.int))) p2 = some (.lst (ns.map V.int)) :=
      Sm.new hp4 _ _ (Sm.new hp3 _ _ upd_same)
    refine ⟨p2, p4, _, _, rfl, rfl, h24, upd_same, ?_, fun c hc => ?_⟩
    · rw [List.length_map, List.length_map]
      exact Nat.le_of_lt (small1000 (by omega))
    rw [← List.map_append]
    obtain ⟨cells, hcells⟩ : ∃ cells, cells = ns ++ zs := ⟨_, rfl⟩
    rw [← hcells]
    have lc : 0 < cells.length ∧ cells.length ≤ 64 := by
      rw [hcells, List.length_append, lz, ekk]
      split <;> omega
    have cH : H c = none := s4.free hc
    have s5 := s4.trans (Sm.new (o := .lst (cells.map V.int)) hc)
    have c5 : (upd (upd (upd (upd (upd H p1 (.lst (ns.map V.int))) p2 (.lst (ns.map V.int))) p3 (.lst [.int 0])) p4 (.lst (zs.map V.int))) c (.lst (cells.map V.int))) c = some (.lst (cells.map V.int)) := upd_same
    generalize upd (upd (upd (upd (upd H p1 (.lst (ns.map V.int))) p2 (.lst (ns.map V.int))) p3 (.lst [.int 0])) p4 (.lst (zs.map V.int))) c (.lst (cells.map V.int)) = H5 at s5 c5
    -- the three
    refine ⟨.ref c, rfl, .ref c, rfl, c, rfl, ⟨_, SqL.of c5⟩, fun r hr0 => lc_list (xs := cells.map V.int) (fun i Hx => ∃ rs : List Int, Hx r = some (.lst (rs.map V.int)) ∧ rs.length = i ∧ (∀ x ∈ rs, 0 ≤ x) ∧ Sm H5 Hx) ⟨[], upd_same, rfl, fun x hx => by simp at hx, Sm.new hr0⟩ (fun i Hx hi hP => ?_) (fun i v Hx hv hP => ?_) (fun Hx hP => ?_)⟩
    · obtain ⟨_, _, _, _, h4⟩ := hP
      exact SqL.of (h4 _ _ c5)
    · obtain ⟨rs, h1, h2, h3, h4⟩ := hP
      have hi : i < cells.length := by
        have := (List.getElem?_eq_some_iff.mp hv).1
        rwa [List.length_map] at this
      obtain ⟨x, rfl⟩ : ∃ x : Int, v = .int x := by
        rw [List.getElem?_map, List.getElem?_eq_getElem hi] at hv
        exact ⟨_, (Option.some.inj hv).symm⟩
      refine ⟨rfl, .int x, rfl, .int x, rfl, _, _, rfl, rfl, ⟨by decide, by decide, by decide⟩, _, _, rfl, rfl, .inr ⟨_, rfl, ?_⟩⟩
      obtain ⟨b, hb, hb2⟩ : ∃ b : Int, (if decide ((10 : Int) ^ (18 : Int).toNat ≤ x) = true then (1 : Int) else 0) = b ∧ ((b = 1 ∧ (10 : Int) ^ (18 : Int).toNat ≤ x) ∨ b = 0) := by
        by_cases z : (10 : Int) ^ (18 : Int).toNat ≤ x
        · exact ⟨1, by rw [decide_eq_true z]; rfl, .inl ⟨rfl, z⟩⟩
        · exact ⟨0, by rw [decide_eq_false z]; rfl, .inr rfl⟩
      rw [hb]
      refine ⟨_, _, rfl, rfl, .inr ⟨?_, ?_⟩, _, h1, by rw [List.length_map]; exact small1000 (by omega), rs ++ [x * b], ?_, by rw [List.length_append, h2]; rfl, ?_, ?_⟩
      · rcases hb2 with ⟨z, _⟩ | z <;> rw [z] <;> decide
      · rcases hb2 with ⟨z, _⟩ | z <;> rw [z] <;> decide
      · rw [upd_same, List.map_append]; rfl
      · intro y hy
        rcases List.mem_append.mp hy with hy | hy
        · exact h3 y hy
        · rw [List.mem_singleton.mp hy]
          rcases hb2 with ⟨z, zx⟩ | z
          · rw [z, Int.mul_one]
            exact Int.le_trans (by decide) zx
          · rw [z, Int.mul_zero]
            exact Int.le_refl 0
      · intro e o he
        rw [upd_ne (ne_of_none he hr0)]
        exact h4 e o he
    · obtain ⟨rs, h1, h2, h3, h4⟩ := hP
      rw [List.length_map] at h2
      refine ⟨(by show 3 ≤ sizeLine; decide), fun d hd0 => ?_⟩
      have c6 := h4 _ _ c5
      have s6 := s5.trans h4
      refine q _ d c r (s6.trans (Sm.new hd0)) ⟨⟨cells, rs, 0, upd_same, Sm.new hd0 _ _ c6, Sm.new hd0 _ _ h1, h2.symm, lc.1, lc.2, Nat.le_refl _, h3⟩, (ne_of_none c6 hd0).symm, (ne_of_none h1 hd0).symm, ne_of_none c5 hr0⟩ (s6.free hd0) cH (s5.free hr0)
end
section
variable {P : Program} {w : World} {K : PySem.W.Frag} {mg : Str → Option Value} {base : Heap}
/-! ### the program: levels, pairs, three items -/
def sp_lb (K : PySem.W.Frag) : Sp := fun vs H Q _ => ∃ (tv : V) (t : List (List Int)) (i j : Nat), vs = [tv, .int (i : Int), .int (j : Int)] ∧ TT K H tv t ∧ WT t ∧ i < t.length ∧ j < t.length ∧ Q (.int (lev t i j)) H
theorem ok_lb {f : Addr} {fd : FuncData} {k : Nat} (F : Fun K "level_between" "level_between" s_level_between f fd) (B : Bi mg) : FnOk P w K mg base CX0 (k + 1) f fd ["table", "one", "other"] (sp_lb K) := by
  refine F.ok sc_level_between (fun vs H Q E h => ?_) (fun cdv A outer s H vs Q E hr h => ?_)
  · obtain ⟨tv, t, i, j, rfl, _⟩ := h
    rfl
  · obtain ⟨tv, t, i, j, rfl, ⟨tp, rs, rfl, htp, hR⟩, hW, hi, hj, q⟩ := h
    refine ⟨_, pss_cons (ps_if (pt_cmpR op_eq (pv 1) (pv 2) (nomark _)) (pss_one (ps_ret pe_int)) pss_nil)
      (pss_one (ps_ret (pe_ix ix_tup (pe_ix ix_tup (pv 0) (pe_callB (call_max2 rfl) (by rfl) B.max (by decide +kernel) (pa_cons (pv 1) (pa_cons (pv 2) pa_nil))) (fun _ _ => rfl)) (pe_callB (call_min2 rfl) (by rfl) B.min (by decide +kernel) (pa_cons (pv 1) (pa_cons (pv 2) pa_nil))) (fun _ _ => rfl)))), ?_⟩
    refine ⟨.int (i : Int), rfl, .int (j : Int), rfl, rfl, _, rfl, ite2 (fun e => ?_) (fun e => ?_)⟩
    · have e1 : (i : Int) = (j : Int) := V.int.inj (of_decide_eq_true e)
      have e2 : i = j := by omega
      have e3 : lev t i j = 0 := by unfold lev; rw [if_pos e2]
      rw [e3] at q
      exact q
    · have e2 : i ≠ j := fun z => e (decide_eq_true (by rw [z]))
      have hm : max i j < t.length := by omega
      obtain ⟨v, p, hv, rfl, hp⟩ := hR.get hm
      obtain ⟨l1, l2⟩ := hW.row hm
      have hl : min i j < (t.getD (max i j) []).length := by omega
      have e3 : lev t i j = (t.getD (max i j) []).getD (min i j) 0 := by unfold lev; rw [if_neg e2]
      rw [e3] at q
      refine ⟨.ref tp, rfl, .int (i : Int), rfl, .int (j : Int), rfl, _, _, rfl, tp, rs, _, _, rfl, rfl, htp, by rw [max_nat]; exact atI_nat hv, .int (i : Int), rfl, .int (j : Int), rfl, _, _, rfl, p, _, _, _, rfl, rfl, hp, by rw [min_nat]; exact atI_nat (map_at (getD_at hl)), q⟩
def sp_pairs (K : PySem.W.Frag) : Sp := fun vs H Q _ => ∃ (tv : V) (t : List (List Int)), vs = [tv] ∧ TT K H tv t ∧ t.length ≤ 20 ∧ ∀ (H' : Hp) (p : Addr) (vs' : List V), Sm H H' → SqT K H' p vs' → Prs K H' vs' (ppre t.length t.length) → Q (.ref p) H'
theorem ok_pairs {f : Addr} {fd : FuncData} {k : Nat} (F : Fun K "pairs_of" "pairs_of" s_pairs_of f fd) (B : Bi mg) : FnOk P w K mg base CX0 (k + 1) f fd ["table"] (sp_pairs K) := by
  refine F.ok sc_pairs_of (fun vs H Q E h => ?_) (fun cdv A outer s H vs Q E hr h => ?_)
  · obtain ⟨tv, t, rfl, _⟩ := h
    rfl
  · obtain ⟨tv, t, rfl, ⟨tp, rs, rfl, htp, hR⟩, h20, q⟩ := h
    have nd := sc_pairs_of.nd
    refine ⟨_, pss_cons (ps_set (i := 1) nd rfl (.inr rfl) (pe_len B (pv 0)))
      (pss_one (ps_ret (pe_callTy call_tuple_of (by rfl) B.tuple (by decide +kernel) (pa_cons
        (pe_lc2 (own := [("one", 2), ("other", 3)]) (vs1 := [3]) (g := gName 2) (g1 := gName 3) (tt := tYes) (tt1 := tYes) rfl nd (pi_range1 rfl B.range (pa_cons (pv 1) pa_nil)) (blkOk_by (N := N_pairs_of) (sc := defScope s_pairs_of) (by decide +kernel)) (by decide)
          (fun _ _ _ _ _ => pg_name (i := 2) nd rfl (.inl rfl)) (fun _ _ _ _ _ => pts_nil)
          (fun _ _ _ _ _ => pi_range2 rfl B.range (pa_cons (pe_op op_add (pv 2) pe_int) (pa_cons (pv 1) pa_nil)))
          (fun _ _ _ _ _ => pg_name (i := 3) nd rfl (.inl rfl)) (fun _ _ _ _ _ => pts_nil)
          (fun _ _ _ _ _ => pe_tup (pa_cons (pv 2) (pa_cons (pv 3) pa_nil)))) pa_nil)))), ?_⟩
    have hrl := hR.1
    refine ⟨.ref tp, rfl, tp, rs, rfl, .inr htp, ?_⟩
    obtain ⟨n, hn⟩ : ∃ n, n = t.length := ⟨_, rfl⟩
    rw [← hn] at q
    refine ⟨.int (rs.length : Int), rfl, _, rfl, by omega, by omega, fun D hDn => ?_⟩
    have e0 : (rs.length : Int).toNat = n := by omega
    rw [e0]
    refine ⟨fun i m Hx => m = n - i ∧ i ≤ n ∧ ∃ acc, Hx D = some (.lst acc) ∧ Prs K Hx acc (ppre n i) ∧ Sm H Hx, ⟨n, by omega, by omega, [], upd_same, Prs.nil, Sm.new hDn⟩, ?_⟩
    rintro i m Hx ⟨rfl, hi, acc, h1, h2, h3⟩
    by_cases hlt : i < n
    · refine .inr ⟨hlt, fun Hy => ∃ acc, Hy D = some (.lst acc) ∧ Prs K Hy acc (ppre n (i + 1)) ∧ Sm H Hy, fun Hy hy => ⟨n - (i + 1), by omega, rfl, by omega, hy⟩, fun x Hy hy => ?_⟩
      obtain ⟨rfl, rfl⟩ := hy
      refine ⟨rfl, ?_⟩
      refine ⟨.int (0 + (i : Int)), rfl, _, _, rfl, rfl, .int (rs.length : Int), rfl, _, _, rfl, ⟨by omega, by omega, by omega, by omega⟩, ?_⟩
      have e1 : ((rs.length : Int) - (0 + (i : Int) + 1)).toNat = n - (i + 1) := by omega
      rw [e1]
      refine ⟨fun j k Hz => k = n - (i + 1) - j ∧ j ≤ n - (i + 1) ∧ ∃ acc, Hz D = some (.lst acc) ∧ Prs K Hz acc (ppre n i ++ (prow n i).take j) ∧ Sm H Hz, ⟨n - (i + 1), by omega, by omega, acc, h1, by rw [List.take_zero, List.append_nil]; exact h2, h3⟩, ?_⟩
      rintro j k Hz ⟨rfl, hj, acc2, g1, g2, g3⟩
      by_cases hjl : j < n - (i + 1)
      · refine .inr ⟨hjl, fun Hy => ∃ acc, Hy D = some (.lst acc) ∧ Prs K Hy acc (ppre n i ++ (prow n i).take (j + 1)) ∧ Sm H Hy, fun Hy hy => ⟨n - (i + 1) - (j + 1), by omega, rfl, by omega, hy⟩, fun x Hy hy => ?_⟩
        obtain ⟨rfl, rfl⟩ := hy
        refine ⟨rfl, .int (0 + (i : Int)), rfl, .int (0 + (i : Int) + 1 + (j : Int)), rfl, (by show 2 ≤ sizeLine; decide), fun p hp => ?_⟩
        have g1' := Sm.new (o := .tup [.int (0 + (i : Int)), .int (0 + (i : Int) + 1 + (j : Int))]) hp _ _ g1
        have hln : acc2.length < sizeLine := by
          have z1 := ppre_len_le n i
          have z2 : i * n ≤ 20 * 20 := Nat.mul_le_mul (by omega) (by omega)
          have z3 := g2.1
          rw [List.length_append, List.length_take, prow_len] at z3
          exact small1000 (by omega)
        refine ⟨acc2, g1', hln, _, upd_same, ?_, ?_⟩
        · rw [prow_take n i j hjl, ← List.append_assoc]
          refine ((g2.same (Sm.new hp)).append (Prs.one ?_)).upd g1'
          have e2 : (.tup [.int (0 + (i : Int)), .int (0 + (i : Int) + 1 + (j : Int))] : HO) = .tup [.int (i : Int), .int ((i + 1 + j : Nat) : Int)] := by
            rw [Int.zero_add, show (i : Int) + 1 + (j : Int) = ((i + 1 + j : Nat) : Int) by omega]
          rw [e2]
          exact SqT.of upd_same
        · intro b o e
          rw [upd_ne (ne_of_none e hDn)]
          exact Sm.new hp _ _ (g3 b o e)
      · have ej : j = n - (i + 1) := by omega
        subst ej
        refine .inl ⟨Nat.le_refl _, acc2, g1, ?_, g3⟩
        rw [ppre_succ]
        rw [List.take_of_length_le (by rw [prow_len]; exact Nat.le_refl _)] at g2
        exact g2
    · have ei : i = n := by omega
      subst ei
      refine .inl ⟨Nat.le_refl _, D, _, rfl, .inl ⟨SqL.of h1, fun p hp => ?_⟩⟩
      exact q _ p acc (h3.trans (Sm.new hp)) (SqT.of upd_same) (h2.same (Sm.new hp))
def sp_even (K : PySem.W.Frag) : Sp := fun vs H Q _ => ∃ (tv : V) (t : List (List Int)) (i j k : Nat), vs = [tv, .int (i : Int), .int (j : Int), .int (k : Int)] ∧ TT K H tv t ∧ WT t ∧ i < t.length ∧ j < t.length ∧ k < t.length ∧
  ∀ (H' : Hp) (b : Bool), Sm H H' → (b = true ↔ Ev t i j k) → Q (.bl b) H'
theorem ok_even {f fL : Addr} {fd fdL : FuncData} (F : Fun K "is_even" "is_even" s_is_even f fd) (DL : Df K mg "level_between" s_level_between fL fdL ["table", "one", "other"]) (B : Bi mg) : FnOk P w K mg base CX0 2 f fd ["table", "one", "other", "third"] (sp_even K) := by
  have GL : FnOk P w K mg base CX0 1 fL fdL ["table", "one", "other"] (sp_lb K) := ok_lb DL.F B
  refine F.ok sc_is_even (fun vs H Q E h => ?_) (fun cdv A outer s H vs Q E hr h => ?_)
  · obtain ⟨tv, t, i, j, k, rfl, _⟩ := h
    rfl
  · obtain ⟨tv, t, i, j, k, rfl, hTT, hW, hi, hj, hk, q⟩ := h
    have nd := sc_is_even.nd
    refine ⟨_, pss_cons (ps_set (i := 4) nd rfl (.inl rfl) (pe_callB cr_sorted (by rfl) B.sorted (by decide +kernel) (pa_cons (pe_lst (pa_cons (pe_cl DL GL hr (pa_cons (pv 0) (pa_cons (pv 1) (pa_cons (pv 2) pa_nil))))
        (pa_cons (pe_cl DL GL hr (pa_cons (pv 0) (pa_cons (pv 1) (pa_cons (pv 3) pa_nil)))) (pa_cons (pe_cl DL GL hr (pa_cons (pv 0) (pa_cons (pv 2) (pa_cons (pv 3) pa_nil)))) pa_nil)))) pa_nil)))
      (pss_one (ps_ret (pe_cmpR op_eq (pe_ix ix_list (pv 4) pe_int (fun _ _ => rfl)) (pe_ix ix_list (pv 4) pe_int (fun _ _ => rfl)) (nomark _)))), ?_⟩
    refine ⟨tv, rfl, .int (i : Int), rfl, .int (j : Int), rfl, tv, t, i, j, rfl, hTT, hW, hi, hj, ?_⟩
    refine ⟨tv, rfl, .int (i : Int), rfl, .int (k : Int), rfl, tv, t, i, k, rfl, hTT, hW, hi, hk, ?_⟩
    refine ⟨tv, rfl, .int (j : Int), rfl, .int (k : Int), rfl, tv, t, j, k, rfl, hTT, hW, hj, hk, ?_⟩
    refine ⟨(by show 3 ≤ sizeLine; decide), fun p hp => ⟨p, [lev t i j, lev t i k, lev t j k], rfl, SqL.of upd_same, (by show 3 < 64; decide), fun ns' p2 hperm hsort hp2 => ?_⟩⟩
    obtain ⟨x, y, z, rfl, hyz⟩ := sorted3 hperm hsort
    refine ⟨.ref p2, rfl, p2, _, _, _, rfl, rfl, SqL.of upd_same, atI_nat (j := 1) rfl, .ref p2, rfl, p2, _, _, _, rfl, rfl, SqL.of upd_same, atI_nat (j := 2) rfl, rfl, ?_⟩
    refine q _ _ ((Sm.new hp).trans (Sm.new hp2)) ?_
    rw [decide_eq_true_iff]
    constructor
    · intro e
      exact hyz.mp (V.int.inj e)
    · intro e
      rw [hyz.mpr e]
def sp_uneven (K : PySem.W.Frag) : Sp := fun vs H Q _ => ∃ (tv : V) (t : List (List Int)), vs = [tv] ∧ TT K H tv t ∧ WT t ∧ t.length ≤ 20 ∧ (∀ H', Sm H H' → AllEven t → Q .non H') ∧
  ∀ (H' : Hp) (p : Addr) (i j k : Nat), Sm H H' → FirstUneven t i j k → SqT K H' p [.int (i : Int), .int (j : Int), .int (k : Int)] → Q (.ref p) H'
structure EvenDefs (K : PySem.W.Frag) (mg : Str → Option Value) : Prop where
  B : Bi mg
  lb : ∃ f fd, Df K mg "level_between" s_level_between f fd ["table", "one", "other"]
  pairs : ∃ f fd, Df K mg "pairs_of" s_pairs_of f fd ["table"]
  even : ∃ f fd, Df K mg "is_even" s_is_even f fd ["table", "one", "other", "third"]
theorem ok_uneven {f : Addr} {fd : FuncData} (F : Fun K "uneven_items" "uneven_items" s_uneven_items f fd) (T : EvenDefs K mg) : FnOk P w K mg base CX0 3 f fd ["table"] (sp_uneven K) := by
  have B := T.B
  obtain ⟨fL, fdL, DL⟩ := T.lb
  obtain ⟨fP, fdP, DP⟩ := T.pairs
  obtain ⟨fE, fdE, DE⟩ := T.even
  have GP : FnOk P w K mg base CX0 2 fP fdP ["table"] (sp_pairs K) := ok_pairs DP.F B
  have GE : FnOk P w K mg base CX0 2 fE fdE ["table", "one", "other", "third"] (sp_even K) := ok_even DE.F DL B
  refine F.ok sc_uneven_items (fun vs H Q E h => ?_) (fun cdv A outer s H vs Q E hr h => ?_)
  · obtain ⟨tv, t, rfl, _⟩ := h
    rfl
  · obtain ⟨tv, t, rfl, hTT, hW, h20, q0, q1⟩ := h
    have nd := sc_uneven_items.nd
    refine ⟨_, pss_cons (ps_for PassesOwn.never rfl (pi_tup (pe_cl DP GP hr (pa_cons (pv 0) pa_nil))) (pg_tup rfl (pgs_cons (pg_name (i := 1) nd rfl (.inl rfl)) (pgs_cons (pg_name (i := 2) nd rfl (.inl rfl)) pgs_nil)))
        (pss_one (ps_for PassesOwn.never rfl (pi_range2 rfl B.range (pa_cons (pe_op op_add (pv 2) pe_int) (pa_cons (pe_len B (pv 0)) pa_nil))) (pg_name (i := 3) nd rfl (.inl rfl))
          (pss_one (ps_if (pt_not (pt_val (pe_cl DE GE hr (pa_cons (pv 0) (pa_cons (pv 1) (pa_cons (pv 2) (pa_cons (pv 3) pa_nil))))))) (pss_one (ps_ret (pe_tup (pa_cons (pv 1) (pa_cons (pv 2) (pa_cons (pv 3) pa_nil)))))) pss_nil)))))
      (pss_one (ps_ret pe_non)), ?_⟩
    obtain ⟨n, hn⟩ : ∃ n, n = t.length := ⟨_, rfl⟩
    refine ⟨tv, rfl, tv, t, rfl, hTT, h20, fun H1 p1 vs1 s1 hp1 hP1 => ?_⟩
    rw [← hn] at hP1
    refine ⟨p1, rfl, ⟨_, hp1⟩, for_tup (xs := vs1) (fun m σ Hx => ∃ x1 x2 x3, σ = [some tv, x1, x2, x3] ∧ Sm H1 Hx ∧ ∀ q, q < m → ∀ a' b', (ppre n n)[q]? = some (a', b') → ∀ k', b' < k' → k' < n → Ev t a' b' k')
      ⟨none, none, none, rfl, Sm.refl _, fun q hq => absurd hq (Nat.not_lt_zero _)⟩ (fun m σ Hx _ hI => ?_) (fun m v σ Hx hv hI => ?_) (fun σ Hx hI => ?_)⟩
    · obtain ⟨_, _, _, _, s2, _⟩ := hI
      exact s2.sqT hp1
    · obtain ⟨x1, x2, x3, rfl, s2, seen⟩ := hI
      have hm : m < (ppre n n).length := by rw [← hP1.1]; exact (List.getElem?_eq_some_iff.mp hv).1
      obtain ⟨⟨a, b⟩, hab⟩ : ∃ p, (ppre n n)[m]? = some p := ⟨_, List.getElem?_eq_getElem hm⟩
      obtain ⟨pp, rfl, hpp⟩ := hP1.2 m v _ hv hab
      have hmem := mem_ppre.mp (List.mem_of_getElem? hab)
      refine ⟨pp, _, rfl, s2.sqT hpp, rfl, _, _, rfl, _, _, rfl, rfl, ?_⟩
      have hTx := hTT.same (s1.trans s2)
      obtain ⟨tp, rs, rfl, htp, hR⟩ := id hTx
      have hrl := hR.1
      refine ⟨.int (b : Int), rfl, _, _, rfl, rfl, .ref tp, rfl, tp, rs, rfl, .inr htp, _, _, rfl, ⟨by omega, by omega, by omega, by omega⟩, ?_⟩
      have e1 : ((rs.length : Int) - ((b : Int) + 1)).toNat = n - (b + 1) := by omega
      rw [e1]
      refine for_range (n := n - (b + 1)) (lo := (b : Int) + 1) (fun c σ Hy => ∃ x3, σ = [some (.ref tp), some (.int (a : Int)), some (.int (b : Int)), x3] ∧ Sm H1 Hy ∧ ∀ k', b < k' → k' < b + 1 + c → Ev t a b k') ⟨x3, rfl, s2, fun k' h1 h2 => by omega⟩ (fun c σ Hy hc hI => ?_) (fun σ Hy hI => ?_)
      · obtain ⟨x3, rfl, s3, seen2⟩ := hI
        have e2 : (b : Int) + 1 + (c : Int) = ((b + 1 + c : Nat) : Int) := by omega
        show _
        refine ⟨_, rfl, .int (a : Int), rfl, .int (b : Int), rfl, .int ((b : Int) + 1 + (c : Int)), rfl, .ref tp, t, a, b, b + 1 + c, by rw [e2]; rfl, hTT.same (s1.trans s3), hW, by omega, by omega, by omega, fun Hz bb sz hb => ?_⟩
        refine ⟨_, rfl, ?_⟩
        cases bb with
        | false =>
          refine iteT ⟨.int (a : Int), rfl, .int (b : Int), rfl, .int ((b : Int) + 1 + (c : Int)), rfl, (by show 3 ≤ sizeLine; decide), fun p hp => ?_⟩
          refine q1 _ p a b (b + 1 + c) (((s1.trans s3).trans sz).trans (Sm.new hp)) (first_of hn hab seen (fun k' h1 h2 => seen2 k' h1 h2) ⟨by omega, by omega⟩ (fun z => Bool.noConfusion (hb.mpr z))) ?_
          rw [e2]
          exact SqT.of upd_same
        | true =>
          refine iteF ⟨_, rfl, s3.trans sz, fun k' h1 h2 => ?_⟩
          by_cases e3 : k' = b + 1 + c
          · rw [e3]
            exact hb.mp rfl
          · exact seen2 k' h1 (by omega)
      · obtain ⟨x3, rfl, s3, seen2⟩ := hI
        refine ⟨_, _, _, rfl, s3, fun q hq a' b' hq' k' h1 h2 => ?_⟩
        by_cases e3 : q = m
        · subst e3
          rw [hab] at hq'
          cases Option.some.inj hq'
          exact seen2 k' h1 (by omega)
        · exact seen q (by omega) a' b' hq' k' h1 h2
    · obtain ⟨x1, x2, x3, rfl, s2, seen⟩ := hI
      rw [hP1.1] at seen
      exact q0 _ (s1.trans s2) (all_of hn seen)
end
/-! ### ascending lists -/
theorem asc_ext : ∀ {l m : List Int}, l.Pairwise (· < ·) → m.Pairwise (· < ·) → (∀ k, k ∈ l ↔ k ∈ m) → l = m
  | [], [], _, _, _ => rfl
  | [], b :: m, _, _, h => absurd ((h b).mpr List.mem_cons_self) List.not_mem_nil
  | a :: l, [], _, _, h => absurd ((h a).mp List.mem_cons_self) List.not_mem_nil
  | a :: l, b :: m, h1, h2, h => by
    obtain ⟨p1, q1⟩ := List.pairwise_cons.mp h1
    obtain ⟨p2, q2⟩ := List.pairwise_cons.mp h2
    have e : a = b := by
      rcases List.mem_cons.mp ((h a).mp List.mem_cons_self) with e | e
      · exact e
      · rcases List.mem_cons.mp ((h b).mpr List.mem_cons_self) with f | f
        · exact f.symm
        · have := p1 b f
          have := p2 a e
          omega
    subst e
    rw [asc_ext q1 q2 fun k => ?_]
    constructor
    · intro hk
      rcases List.mem_cons.mp ((h k).mp (List.mem_cons_of_mem _ hk)) with e | e
      · have := p1 k hk
        omega
      · exact e
    · intro hk
      rcases List.mem_cons.mp ((h k).mpr (List.mem_cons_of_mem _ hk)) with e | e
      · have := p2 k hk
        omega
      · exact e
theorem mem_flat_take {t : List (List Int)} {i : Nat} (hi : i < t.length) (k : Int) : k ∈ (t.take (i + 1)).flatten ↔ k ∈ (t.take i).flatten ∨ k ∈ t.getD i [] := by
  have e : t.take (i + 1) = t.take i ++ [t.getD i []] := by
    rw [List.take_add_one, List.getD_eq_getElem?_getD, List.getElem?_eq_getElem hi]
    rfl
  rw [e, List.flatten_append, List.mem_append, List.flatten_cons, List.flatten_nil, List.append_nil]
theorem mem_take_succ {ns : List Int} {j : Nat} {x : Int} (h : ns[j]? = some x) (k : Int) : k ∈ ns.take (j + 1) ↔ k ∈ ns.take j ∨ k = x := by
  rw [List.take_add_one, h]
  simp
section
variable {P : Program} {w : World} {K : PySem.W.Frag} {mg : Str → Option Value} {base : Heap}
/-! ### the program: the levels of a table; nested or not -/
def sp_lvs (K : PySem.W.Frag) : Sp := fun vs H Q _ => ∃ (tv : V) (t : List (List Int)), vs = [tv] ∧ TT K H tv t ∧ WT t ∧ t.length ≤ 20 ∧ ∀ (H' : Hp) (p : Addr) (ns : List Int), Sm H H' → SqT K H' p (ns.map V.int) → ns.Pairwise (· < ·) → (∀ k, k ∈ ns ↔ k ∈ t.flatten) → ns.length ≤ 400 → Q (.ref p) H'
theorem ok_lvs {f : Addr} {fd : FuncData} {k : Nat} (F : Fun K "levels_of" "levels_of" s_levels_of f fd) (B : Bi mg) : FnOk P w K mg base CX0 (k + 1) f fd ["table"] (sp_lvs K) := by
  refine F.ok sc_levels_of (fun vs H Q E h => ?_) (fun cdv A outer s H vs Q E hr h => ?_)
  · obtain ⟨tv, t, rfl, _⟩ := h
    rfl
  · obtain ⟨tv, t, rfl, ⟨tp, rs, rfl, htp, hR⟩, hW, h20, q⟩ := h
    have nd := sc_levels_of.nd
    refine ⟨_, pss_one (ps_ret (pe_callTy call_tuple_of (by rfl) B.tuple (by decide +kernel) (pa_cons (pe_callB (cr_sortS rfl) (by rfl) B.sorted (by decide +kernel) (pa_cons
      (pe_si2 (own := [("row", 1), ("level", 2)]) (vs1 := [2]) (g := gName 1) (g1 := gName 2) (wi1 := iTup K (tVar 1)) rfl nd (pi_tup (pv 0)) (blkOk_by (N := N_levels_of) (sc := defScope s_levels_of) (by decide +kernel)) (by decide)
        (fun _ _ _ _ _ => pg_name (i := 1) nd rfl (.inl rfl)) (fun _ _ _ _ _ => pi_tup (pv 1)) (fun _ _ _ _ _ => pg_name (i := 2) nd rfl (.inl rfl)) (fun _ _ _ _ _ => pv 2)) pa_nil)) pa_nil))), ?_⟩
    have hrl := hR.1
    refine ⟨.ref tp, rfl, tp, rfl, ⟨_, htp⟩, fun D hDn => ?_⟩
    refine ⟨fun i m Hx => m = rs.length - i ∧ i ≤ rs.length ∧ ∃ S n, Hx D = some (SetO w D S n) ∧ (∀ k, S k = true ↔ k ∈ (t.take i).flatten) ∧ n ≤ 20 * i ∧ Sm H Hx, ⟨rs.length, by omega, by omega, _, 0, upd_same, fun k => by simp, by omega, Sm.new hDn⟩, ?_⟩
    rintro i m Hx ⟨rfl, hi, S, n, h1, h2, h3, h4⟩
    by_cases hlt : i < rs.length
    · have hit : i < t.length := by omega
      obtain ⟨v, p, hv, rfl, hp⟩ := hR.get hit
      obtain ⟨l1, l2⟩ := hW.row hit
      refine .inr ⟨⟨rs, _, h4.sqT htp, hv⟩, fun Hy => ∃ S n, Hy D = some (SetO w D S n) ∧ (∀ k, S k = true ↔ k ∈ (t.take (i + 1)).flatten) ∧ n ≤ 20 * (i + 1) ∧ Sm H Hy, fun Hy hy => ⟨rs.length - (i + 1), by omega, rfl, by omega, hy⟩, fun x Hy hy => ?_⟩
      obtain ⟨rfl, hy⟩ := hy
      obtain rfl : x = .ref p := Option.some.inj ((hy rs (h4.sqT htp)).symm.trans hv)
      refine ⟨rfl, .ref p, rfl, p, rfl, ⟨_, h4.sqT hp⟩, ?_⟩
      refine ⟨fun j k Hz => k = i - j ∧ j ≤ i ∧ ∃ S n, Hz D = some (SetO w D S n) ∧ (∀ k, S k = true ↔ (k ∈ (t.take i).flatten ∨ k ∈ (t.getD i []).take j)) ∧ n ≤ 20 * i + j ∧ Sm H Hz, ⟨i, by omega, by omega, S, n, h1, fun k => by rw [h2 k]; simp, by omega, h4⟩, ?_⟩
      rintro j k Hz ⟨rfl, hj, S1, n1, g1, g2, g3, g4⟩
      by_cases hjl : j < i
      · have hjr : j < (t.getD i []).length := by omega
        have hat := getD_at hjr
        refine .inr ⟨⟨_, _, g4.sqT hp, map_at hat⟩, fun Hy => ∃ S n, Hy D = some (SetO w D S n) ∧ (∀ k, S k = true ↔ (k ∈ (t.take i).flatten ∨ k ∈ (t.getD i []).take (j + 1))) ∧ n ≤ 20 * i + (j + 1) ∧ Sm H Hy, fun Hy hy => ⟨i - (j + 1), by omega, rfl, by omega, hy⟩, fun x Hy hy => ?_⟩
        obtain ⟨rfl, hy⟩ := hy
        obtain rfl : x = .int ((t.getD i []).getD j 0) := Option.some.inj ((hy _ (g4.sqT hp)).symm.trans (map_at hat))
        refine ⟨rfl, _, rfl, _, S1, n1, rfl, g1, by unfold scanBound; omega, _, _, upd_same, fun k => ?_, ?_, ?_⟩
        · rw [mem_take_succ hat k, Bool.or_eq_true, g2 k, decide_eq_true_iff]
          exact or_assoc
        · split <;> omega
        · intro b o e
          rw [upd_ne (ne_of_none e hDn)]
          exact g4 b o e
      · have ej : j = i := by omega
        subst ej
        refine .inl ⟨⟨_, g4.sqT hp, by rw [List.length_map, l1]; exact Nat.le_refl _⟩, S1, n1, g1, fun k => ?_, by omega, g4⟩
        rw [g2 k, mem_flat_take hit k, List.take_of_length_le (l := t.getD j []) (by omega)]
    · have ei : i = rs.length := by omega
      refine .inl ⟨⟨rs, h4.sqT htp, by omega⟩, D, S, n, rfl, h1, by omega, fun ns p5 srt mem len hp5 => ?_⟩
      refine ⟨p5, _, rfl, .inl ⟨SqL.of upd_same, fun p6 hp6 => ?_⟩⟩
      refine q _ p6 ns ((h4.trans (Sm.new hp5)).trans (Sm.new hp6)) (SqT.of upd_same) srt (fun k => ?_) (by omega)
      rw [mem k, h2 k, ei, hrl, List.take_length]
def sp_isn (K : PySem.W.Frag) : Sp := fun vs H Q _ => ∃ (tv : V) (t : List (List Int)), vs = [tv] ∧ TT K H tv t ∧ WT t ∧ t.length ≤ 20 ∧ ∀ (H' : Hp) (b : Bool), Sm H H' → (b = true ↔ AllEven t) → Q (.bl b) H'
theorem ok_isn {f fU : Addr} {fd fdU : FuncData} (F : Fun K "is_nested" "is_nested" s_is_nested f fd) (DU : Df K mg "uneven_items" s_uneven_items fU fdU ["table"]) (T : EvenDefs K mg) : FnOk P w K mg base CX0 4 f fd ["table"] (sp_isn K) := by
  have GU : FnOk P w K mg base CX0 3 fU fdU ["table"] (sp_uneven K) := ok_uneven DU.F T
  refine F.ok sc_is_nested (fun vs H Q E h => ?_) (fun cdv A outer s H vs Q E hr h => ?_)
  · obtain ⟨tv, t, rfl, _⟩ := h
    rfl
  · obtain ⟨tv, t, rfl, hT, hW, h20, q⟩ := h
    refine ⟨_, pss_one (ps_ret (pe_cmpR op_isN (pe_cl DU GU hr (pa_cons (pv 0) pa_nil)) pe_non (nomark _))), ?_⟩
    refine ⟨tv, rfl, tv, t, rfl, hT, hW, h20, fun H' sH hA => ⟨rfl, q H' _ sH ?_⟩, fun H' p i j k sH hF hp => ⟨rfl, q H' _ sH ?_⟩⟩
    · rw [decide_eq_true rfl]
      exact ⟨fun _ => hA, fun _ => rfl⟩
    · rw [decide_eq_false (fun e => by cases e)]
      exact ⟨fun e => Bool.noConfusion e, fun e => (first_not_all hF e).elim⟩
end
section
variable {P : Program} {w : World} {K : PySem.W.Frag} {mg : Str → Option Value} {base : Heap}
/-! ### the program: items, levels between items -/
def sp_whole : Sp := fun vs H Q _ => ∃ i : Int, vs = [.int i] ∧ Q (.bl true) H
theorem ok_whole {f : Addr} {fd : FuncData} {k : Nat} (F : Fun K "is_whole" "is_whole" s_is_whole f fd) (B : Bi mg) : FnOk P w K mg base CX0 (k + 1) f fd ["value"] sp_whole := by
  refine F.ok sc_is_whole (fun vs H Q E h => ?_) (fun cdv A outer s H vs Q E hr h => ?_)
  · obtain ⟨i, rfl, _⟩ := h
    rfl
  · obtain ⟨i, rfl, q⟩ := h
    refine ⟨_, pss_one (ps_ret (pe_and (pe_callB call_isi (by rfl) B.isinstance (by decide +kernel) (pa_cons (pv 0) (pa_cons (pe_bltn (by rfl) B.int (by decide +kernel) (v := .ty "int") rfl) pa_nil)))
      (pe_one (pe_not (pe_callB call_isi (by rfl) B.isinstance (by decide +kernel) (pa_cons (pv 0) (pa_cons (pe_bltn (by rfl) B.bool (by decide +kernel) (v := .ty "bool") rfl) pa_nil))))))), ?_⟩
    exact ⟨_, rfl, .int i, .ty "int", .type "int", _, true, rfl, .ty _, .base (.int i), kit_ty (show kitB "int" "int" = some true by decide +kernel), true, rfl, ⟨_, rfl, .int i, .ty "bool", .type "int", _, false, rfl, .ty _, .base (.int i), kit_ty (show kitB "int" "bool" = some false by decide +kernel), false, rfl, q⟩⟩
def sp_item (K : PySem.W.Frag) : Sp := fun vs H Q _ => ∃ (tv : V) (t : List (List Int)) (i : Nat), vs = [tv, .int (i : Int)] ∧ TT K H tv t ∧ i < t.length ∧ Q (.bl true) H
theorem ok_item {f fW : Addr} {fd fdW : FuncData} (F : Fun K "is_item" "is_item" s_is_item f fd) (DW : Df K mg "is_whole" s_is_whole fW fdW ["value"]) (B : Bi mg) : FnOk P w K mg base CX0 2 f fd ["table", "value"] (sp_item K) := by
  have GW : FnOk P w K mg base CX0 1 fW fdW ["value"] sp_whole := ok_whole DW.F B
  refine F.ok sc_is_item (fun vs H Q E h => ?_) (fun cdv A outer s H vs Q E hr h => ?_)
  · obtain ⟨tv, t, i, rfl, _⟩ := h
    rfl
  · obtain ⟨tv, t, i, rfl, ⟨tp, rs, rfl, htp, hR⟩, hi, q⟩ := h
    have hrl := hR.1
    refine ⟨_, pss_one (ps_ret (pe_and (pe_cl DW GW hr (pa_cons (pv 1) pa_nil)) (pe_one (pe_chain op_le op_lt pe_int (pv 1) (pe_len B (pv 0)))))), ?_⟩
    refine ⟨.int (i : Int), rfl, (i : Int), rfl, true, rfl, ⟨.int (i : Int), rfl, _, _, rfl, rfl, true, ?_, ⟨.ref tp, rfl, tp, rs, rfl, .inr htp, _, _, rfl, rfl, ?_⟩⟩⟩
    · show V.bl (decide ((0 : Int) ≤ (i : Int))) = V.bl true
      rw [decide_eq_true (by omega)]
    · show Q (V.bl (decide ((i : Int) < (rs.length : Int)))) H
      rw [decide_eq_true (by omega)]
      exact q
def sp_check (K : PySem.W.Frag) : Sp := fun vs H Q _ => ∃ (tv : V) (t : List (List Int)) (i j : Nat), vs = [tv, .int (i : Int), .int (j : Int)] ∧ TT K H tv t ∧ i < t.length ∧ j < t.length ∧ Q .non H
theorem ok_check {f fI fW : Addr} {fd fdI fdW : FuncData} (F : Fun K "check_items" "check_items" s_check_items f fd) (DI : Df K mg "is_item" s_is_item fI fdI ["table", "value"]) (DW : Df K mg "is_whole" s_is_whole fW fdW ["value"]) (B : Bi mg) : FnOk P w K mg base CX0 3 f fd ["table", "one", "other"] (sp_check K) := by
  have GI : FnOk P w K mg base CX0 2 fI fdI ["table", "value"] (sp_item K) := ok_item DI.F DW B
  refine F.ok sc_check_items (fun vs H Q E h => ?_) (fun cdv A outer s H vs Q E hr h => ?_)
  · obtain ⟨tv, t, i, j, rfl, _⟩ := h
    rfl
  · obtain ⟨tv, t, i, j, rfl, hT, hi, hj, q⟩ := h
    refine ⟨_, pss_cons (ps_if (pt_not (pt_val (pe_cl DI GI hr (pa_cons (pv 0) (pa_cons (pv 1) pa_nil))))) pss_never pss_nil)
      (pss_one (ps_if (pt_not (pt_val (pe_cl DI GI hr (pa_cons (pv 0) (pa_cons (pv 2) pa_nil))))) pss_never pss_nil)), ?_⟩
    refine ⟨tv, rfl, .int (i : Int), rfl, tv, t, i, rfl, hT, hi, true, rfl, ?_⟩
    exact ⟨tv, rfl, .int (j : Int), rfl, tv, t, j, rfl, hT, hj, true, rfl, q⟩
structure ItemDefs (K : PySem.W.Frag) (mg : Str → Option Value) : Prop where
  B : Bi mg
  lb : ∃ f fd, Df K mg "level_between" s_level_between f fd ["table", "one", "other"]
  whole : ∃ f fd, Df K mg "is_whole" s_is_whole f fd ["value"]
  item : ∃ f fd, Df K mg "is_item" s_is_item f fd ["table", "value"]
  check : ∃ f fd, Df K mg "check_items" s_check_items f fd ["table", "one", "other"]
  lo : ∃ f fd, Df K mg "level_of" s_level_of f fd ["table", "one", "other"]
theorem ok_lo {f : Addr} {fd : FuncData} (F : Fun K "level_of" "level_of" s_level_of f fd) (T : ItemDefs K mg) : FnOk P w K mg base CX0 4 f fd ["table", "one", "other"] (sp_lb K) := by
  have B := T.B
  obtain ⟨fL, fdL, DL⟩ := T.lb
  obtain ⟨fW, fdW, DW⟩ := T.whole
  obtain ⟨fI, fdI, DI⟩ := T.item
  obtain ⟨fC, fdC, DC⟩ := T.check
  have GL : FnOk P w K mg base CX0 3 fL fdL ["table", "one", "other"] (sp_lb K) := ok_lb DL.F B
  have GC : FnOk P w K mg base CX0 3 fC fdC ["table", "one", "other"] (sp_check K) := ok_check DC.F DI DW B
  refine F.ok sc_level_of (fun vs H Q E h => ?_) (fun cdv A outer s H vs Q E hr h => ?_)
  · obtain ⟨tv, t, i, j, rfl, _⟩ := h
    rfl
  · obtain ⟨tv, t, i, j, rfl, hT, hW, hi, hj, q⟩ := h
    refine ⟨_, pss_cons (ps_expr (pe_cl DC GC hr (pa_cons (pv 0) (pa_cons (pv 1) (pa_cons (pv 2) pa_nil))))) (pss_one (ps_ret (pe_cl DL GL hr (pa_cons (pv 0) (pa_cons (pv 1) (pa_cons (pv 2) pa_nil)))))), ?_⟩
    refine ⟨tv, rfl, .int (i : Int), rfl, .int (j : Int), rfl, tv, t, i, j, rfl, hT, hi, hj, ?_⟩
    exact ⟨tv, rfl, .int (i : Int), rfl, .int (j : Int), rfl, tv, t, i, j, rfl, hT, hW, hi, hj, q⟩
end
section
variable {P : Program} {w : World} {K : PySem.W.Frag} {mg : Str → Option Value} {base : Heap}
/-! ### the program: a table has no fault -/
def sp_isl : Sp := fun vs H Q _ => ∃ x : Int, vs = [.int x] ∧ LvOk x ∧ Q (.bl true) H
theorem ok_isl {f fW : Addr} {fd fdW : FuncData} (F : Fun K "is_level" "is_level" s_is_level f fd) (DW : Df K mg "is_whole" s_is_whole fW fdW ["value"]) (gL : ∃ t, mg "LEVEL" = some (.int 1000000000000 t)) (B : Bi mg) : FnOk P w K mg base CX0 2 f fd ["value"] sp_isl := by
  obtain ⟨tL, gL⟩ := gL
  have GW : FnOk P w K mg base CX0 1 fW fdW ["value"] sp_whole := ok_whole DW.F B
  refine F.ok sc_is_level (fun vs H Q E h => ?_) (fun cdv A outer s H vs Q E hr h => ?_)
  · obtain ⟨x, rfl, _⟩ := h
    rfl
  · obtain ⟨x, rfl, hx, q⟩ := h
    refine ⟨_, pss_one (ps_ret (pe_and (pe_cl DW GW hr (pa_cons (pv 0) pa_nil)) (pe_one (pe_chain op_le op_le pe_int (pv 0) (pe_glob (v := .int 1000000000000) rfl gL ⟨_, rfl⟩))))), ?_⟩
    refine ⟨.int x, rfl, x, rfl, true, rfl, ⟨.int x, rfl, _, _, rfl, rfl, true, ?_, ⟨_, _, rfl, rfl, ?_⟩⟩⟩
    · show V.bl (decide ((1 : Int) ≤ x)) = V.bl true
      rw [decide_eq_true hx.1]
    · show Q (V.bl (decide (x ≤ (1000000000000 : Int)))) H
      rw [decide_eq_true hx.2]
      exact q
def sp_rowf (K : PySem.W.Frag) : Sp := fun vs H Q _ => ∃ (v : V) (ns : List Int) (n : Nat), vs = [.int (n : Int), v] ∧ IT K H v ns ∧ ns.length = n ∧ (∀ x ∈ ns, LvOk x) ∧ ∀ H', Sm H H' → Q .non H'
theorem ok_rowf {f fS fW : Addr} {fd fdS fdW : FuncData} (F : Fun K "find_row_fault" "find_row_fault" s_find_row_fault f fd) (DS : Df K mg "is_level" s_is_level fS fdS ["value"]) (DW : Df K mg "is_whole" s_is_whole fW fdW ["value"]) (gL : ∃ t, mg "LEVEL" = some (.int 1000000000000 t)) (B : Bi mg) :
    FnOk P w K mg base CX0 3 f fd ["at", "row"] (sp_rowf K) := by
  have GS : FnOk P w K mg base CX0 2 fS fdS ["value"] sp_isl := ok_isl DS.F DW gL B
  refine F.ok sc_find_row_fault (fun vs H Q E h => ?_) (fun cdv A outer s H vs Q E hr h => ?_)
  · obtain ⟨v, ns, n, rfl, _⟩ := h
    rfl
  · obtain ⟨v, ns, n, rfl, ⟨p, rfl, hp⟩, hn, hL, q⟩ := h
    have nd := sc_find_row_fault.nd
    refine ⟨_, pss_cons (ps_if (PW.pt (pw_or (pt_not (pt_val (pe_callB call_isi (by rfl) B.isinstance (by decide +kernel) (pa_cons (pv 1) (pa_cons (pe_bltn (by rfl) B.tuple (by decide +kernel) (v := .ty "tuple") rfl) pa_nil))))) (pw_or1 (pt_cmpR op_ne (pe_len B (pv 1)) (pv 0) (nomark _))))) pss_never pss_nil)
      (pss_cons (ps_for PassesOwn.never rfl (pi_enumT rfl B.enumerate (pa_cons (pv 1) pa_nil)) (pg_tup rfl (pgs_cons (pg_name (i := 2) nd rfl (.inl rfl)) (pgs_cons (pg_name (i := 3) nd rfl (.inl rfl)) pgs_nil)))
        (pss_one (ps_if (pt_not (pt_val (pe_cl DS GS hr (pa_cons (pv 3) pa_nil)))) pss_never pss_nil)))
      (pss_one (ps_ret pe_non))), ?_⟩
    refine ⟨.ref p, rfl, .ref p, .ty "tuple", _, _, true, rfl, .ty _, ty_tup hp, kit_ty (show kitB "tuple" "tuple" = some true by decide +kernel), true, rfl, ?_⟩
    refine ⟨.ref p, rfl, p, _, rfl, .inr hp, .int (n : Int), rfl, rfl, _, rfl, iteNS (by rw [List.length_map, hn]) ?_⟩
    refine ⟨.ref p, rfl, p, _, rfl, hp, for_enumT (xs := ns.map V.int) (fun i σ Hx => ∃ x2 x3, σ = [some (.int (n : Int)), some (.ref p), x2, x3] ∧ Sm H Hx) ⟨none, none, rfl, Sm.refl _⟩ (fun i σ Hx hI => ?_) (fun i x T σ Hx hx hI hT => ?_) (fun σ Hx hI => ?_)⟩
    · obtain ⟨_, _, _, sx⟩ := hI
      exact sx.sqT hp
    · obtain ⟨x2, x3, rfl, sx⟩ := hI
      obtain ⟨lv, hlv, rfl⟩ := gr_at hL hx
      have sT : Sm Hx (upd Hx T (.tup [.int (i : Nat), .int lv])) := Sm.new hT
      refine ⟨T, _, rfl, SqT.of upd_same, rfl, _, _, rfl, _, _, rfl, rfl, ?_⟩
      exact ⟨.int lv, rfl, lv, rfl, hlv, true, rfl, ⟨_, _, rfl, sx.trans sT⟩⟩
    · obtain ⟨x2, x3, rfl, sx⟩ := hI
      exact q _ sx
def sp_fault (K : PySem.W.Frag) : Sp := fun vs H Q _ => ∃ (tv : V) (t : List (List Int)), vs = [tv] ∧ TT K H tv t ∧ WT t ∧ 1 ≤ t.length ∧ t.length ≤ 12 ∧ ∀ H', Sm H H' → Q .non H'
structure FaultDefs (K : PySem.W.Frag) (mg : Str → Option Value) : Prop where
  B : Bi mg
  gL : ∃ t, mg "LEVEL" = some (.int 1000000000000 t)
  gI : ∃ t, mg "ITEMS" = some (.int 12 t)
  whole : ∃ f fd, Df K mg "is_whole" s_is_whole f fd ["value"]
  isl : ∃ f fd, Df K mg "is_level" s_is_level f fd ["value"]
  rowf : ∃ f fd, Df K mg "find_row_fault" s_find_row_fault f fd ["at", "row"]
theorem ok_fault {f : Addr} {fd : FuncData} (F : Fun K "find_fault" "find_fault" s_find_fault f fd) (T : FaultDefs K mg) : FnOk P w K mg base CX0 4 f fd ["value"] (sp_fault K) := by
  have B := T.B
  obtain ⟨tI, gI⟩ := T.gI
  obtain ⟨fW, fdW, DW⟩ := T.whole
  obtain ⟨fS, fdS, DS⟩ := T.isl
  obtain ⟨fR, fdR, DR⟩ := T.rowf
  have GR : FnOk P w K mg base CX0 3 fR fdR ["at", "row"] (sp_rowf K) := ok_rowf DR.F DS DW T.gL B
  refine F.ok sc_find_fault (fun vs H Q E h => ?_) (fun cdv A outer s H vs Q E hr h => ?_)
  · obtain ⟨tv, t, rfl, _⟩ := h
    rfl
  · obtain ⟨tv, t, rfl, hT, hW, h1, h12, q⟩ := h
    have nd := sc_find_fault.nd
    refine ⟨_, pss_cons (ps_if (PW.pt (pw_or (pt_not (pt_val (pe_callB call_isi (by rfl) B.isinstance (by decide +kernel) (pa_cons (pv 0) (pa_cons (pe_bltn (by rfl) B.tuple (by decide +kernel) (v := .ty "tuple") rfl) pa_nil))))) (pw_or1 (pt_not (pt_chain op_le op_le pe_int (pe_len B (pv 0)) (pe_glob (v := .int 12) rfl gI ⟨_, rfl⟩)))))) pss_never pss_nil)
      (pss_cons (ps_for PassesOwn.never rfl (pi_enumT rfl B.enumerate (pa_cons (pv 0) pa_nil)) (pg_tup rfl (pgs_cons (pg_name (i := 1) nd rfl (.inl rfl)) (pgs_cons (pg_name (i := 2) nd rfl (.inl rfl)) pgs_nil)))
        (pss_cons (ps_set (i := 3) nd rfl (.inl rfl) (pe_cl DR GR hr (pa_cons (pv 1) (pa_cons (pv 2) pa_nil)))) (pss_one (ps_if (pt_cmpR op_notN (pv 3) pe_non (nomark _)) pss_never pss_nil))))
      (pss_one (ps_ret pe_non))), ?_⟩
    obtain ⟨tp, rs, rfl, htp, hR⟩ := id hT
    have hrl := hR.1
    refine ⟨.ref tp, rfl, .ref tp, .ty "tuple", _, _, true, rfl, .ty _, ty_tup htp, kit_ty (show kitB "tuple" "tuple" = some true by decide +kernel), true, rfl, ?_⟩
    refine ⟨.ref tp, rfl, tp, rs, rfl, .inr htp, _, _, rfl, rfl, true, ?_, ⟨_, _, rfl, rfl, true, ?_, ?_⟩⟩
    · show V.bl (decide ((1 : Int) ≤ (rs.length : Int))) = V.bl true
      rw [decide_eq_true (by omega)]
    · show V.bl (decide ((rs.length : Int) ≤ (12 : Int))) = V.bl true
      rw [decide_eq_true (by omega)]
    refine ⟨.ref tp, rfl, tp, _, rfl, htp, for_enumT (xs := rs) (fun i σ Hx => ∃ x1 x2 x3, σ = [some (.ref tp), x1, x2, x3] ∧ Sm H Hx) ⟨none, none, none, rfl, Sm.refl _⟩ (fun i σ Hx hI => ?_) (fun i x Tp σ Hx hx hI hTp => ?_) (fun σ Hx hI => ?_)⟩
    · obtain ⟨_, _, _, _, sx⟩ := hI
      exact sx.sqT htp
    · obtain ⟨x1, x2, x3, rfl, sx⟩ := hI
      have hit : i < t.length := by rw [← hrl]; exact (List.getElem?_eq_some_iff.mp hx).1
      obtain ⟨v', p, hv', rfl, hp⟩ := hR.get hit
      obtain rfl : x = .ref p := Option.some.inj (hx.symm.trans hv')
      obtain ⟨l1, l2⟩ := hW.row hit
      have sT : Sm Hx (upd Hx Tp (.tup [.int (i : Nat), .ref p])) := Sm.new hTp
      refine ⟨Tp, _, rfl, SqT.of upd_same, rfl, _, _, rfl, _, _, rfl, rfl, ?_⟩
      refine ⟨.int (i : Nat), rfl, .ref p, rfl, .ref p, t.getD i [], i, rfl, ⟨p, rfl, (sx.trans sT).sqT hp⟩, l1, l2, fun H2 s2 => ?_⟩
      exact ⟨_, rfl, rfl, _, rfl, iteNS rfl ⟨_, _, _, rfl, (sx.trans sT).trans s2⟩⟩
    · obtain ⟨x1, x2, x3, rfl, sx⟩ := hI
      exact q _ sx
end
section
variable {P : Program} {w : World} {K : PySem.W.Frag} {mg : Str → Option Value} {base : Heap}
/-! ### a drawn order -/
abbrev nI (os : List Nat) : List V := os.map fun i : Nat => V.int (i : Int)
theorem nI_ints (os : List Nat) : nI os = (os.map fun i : Nat => (i : Int)).map V.int := by
  unfold nI
  rw [List.map_map]
  rfl
theorem nI_at {os : List Nat} {k : Nat} (h : k < os.length) : (nI os)[k]? = some (.int ((os.getD k 0 : Nat) : Int)) := by
  unfold nI
  rw [List.getElem?_map, List.getD_eq_getElem?_getD, List.getElem?_eq_getElem h]
  rfl
theorem erase_perm {α : Type} : ∀ (l : List α) (k : Nat) (y : α), l[k]? = some y → (l.eraseIdx k ++ [y]).Perm l
  | [], k, y, h => by simp at h
  | a :: l, 0, y, h => by
    cases Option.some.inj h
    exact List.perm_append_comm
  | a :: l, k + 1, y, h => by
    have ih := erase_perm l k y (by simpa using h)
    exact ih.cons a
theorem erase_map {α β : Type} (f : α → β) : ∀ (l : List α) (k : Nat), (l.map f).eraseIdx k = (l.eraseIdx k).map f
  | [], k => by simp
  | a :: l, 0 => by simp
  | a :: l, k + 1 => by simp [erase_map f l k]
def sp_mixed (K : PySem.W.Frag) : Sp := fun vs H Q _ => ∃ (d c r : Addr) (n : Nat) (l : Addr) (is : List Nat), vs = [.ref d, .ref l] ∧ Dr H d c r n ∧ n ≤ 700000 ∧ SqL K H l (nI is) ∧ is.length ≤ 20 ∧
  ∀ (H' : Hp) (p : Addr) (os : List Nat), H p = none → H' p = some (.lst (nI os)) → os.Perm is → Dr H' d c r (n + is.length) → Kp d r H H' → Q (.ref p) H'
theorem ok_mixed {f fN : Addr} {fd fdN : FuncData} (F : Fun K "_law_mixed" "_law_mixed" s_L_mixed f fd) (DN : Df K mg "_law_next" s_L_next fN fdN ["_law_drawn", "_law_many"]) (B : Bi mg) : FnOk P w K mg base CX0 2 f fd ["_law_drawn", "_law_items"] (sp_mixed K) := by
  have GN : FnOk P w K mg base CX0 1 fN fdN ["_law_drawn", "_law_many"] sp_next := ok_next DN.F B
  refine F.ok sc_L_mixed (fun vs H Q E h => ?_) (fun cdv A outer s H vs Q E hr h => ?_)
  · obtain ⟨d, c, r, n, l, is, rfl, _⟩ := h
    rfl
  · obtain ⟨d, c, r, n, l, is, rfl, hD, hn, hl, h20, q⟩ := h
    have nd := sc_L_mixed.nd
    refine ⟨_, pss_cons (ps_par (i := 2) (j := 3) rfl nd rfl rfl (by decide) rfl rfl (pa_cons (pe_callTy call_list_of (by rfl) B.list (by decide +kernel) (pa_cons (pv 1) pa_nil)) (pa_cons (pe_lst pa_nil) pa_nil)) rfl)
      (pss_cons (ps_while PassesOwn.never (pt_cmpR (op_neD hr.units) (pv 2) (pe_lst pa_nil) (nomark _))
        (pss_one (ps_expr (pe_bm PySem.F.plainAttrs_list PySem.F.slot_list_append PySem.F.type_list_append mt_append (pv 3) (pa_cons
          (pe_bm PySem.F.plainAttrs_list PySem.F.slot_list_pop PySem.F.type_list_pop mt_popAt (pv 2) (pa_cons (pe_cl DN GN hr (pa_cons (pv 0) (pa_cons (pe_len B (pv 2)) pa_nil))) pa_nil)) pa_nil)))))
      (pss_one (ps_ret (pv 3)))), ?_⟩
    refine ⟨.ref l, rfl, l, _, rfl, .inl hl, fun re hre => ⟨Nat.zero_le _, fun fo hfo => ⟨_, _, rfl, ?_⟩⟩⟩
    have D1 := (hD.new (o := .lst (nI is)) hre).new (o := .lst []) hfo
    have nre := hD.ne hre
    have nfo := (hD.new (o := .lst (nI is)) hre).ne hfo
    have nrf : re ≠ fo := ne_of_none upd_same hfo
    have freH : H fo = none := Sm.free (Sm.new hre) hfo
    have k1 : Kp d r H (upd (upd H re (.lst (nI is))) fo (.lst [])) := (Kp.new hre).trans (Kp.new hfo)
    refine ⟨fun m σ Hx => ∃ (left os : List Nat), σ = [some (.ref d), some (.ref l), some (.ref re), some (.ref fo)] ∧ Hx re = some (.lst (nI left)) ∧ Hx fo = some (.lst (nI os)) ∧ (os ++ left).Perm is ∧ m = left.length ∧ Dr Hx d c r (n + os.length) ∧ Kp d r H Hx,
      ⟨is.length, is, [], rfl, Sm.new hfo _ _ upd_same, upd_same, .refl _, rfl, D1, k1⟩, fun m σ Hx hW => ?_⟩
    obtain ⟨left, os, rfl, h1, h2, h3, rfl, h4, h5⟩ := hW
    have hlen := h3.length_eq
    rw [List.length_append] at hlen
    refine ⟨.ref re, rfl, Nat.zero_le _, fun e0 he0 => ?_⟩
    have s0 : Sm Hx (upd Hx e0 (.lst [])) := Sm.new he0
    have hre0 := s0 _ _ h1
    have hfo0 := s0 _ _ h2
    refine ⟨_, _, dp_list (ns := left.map fun i : Nat => (i : Int)) (by rw [← nI_ints]; exact hre0), dp_list (ns := []) upd_same, shaped_list _, shaped_list _, _, rfl, ?_⟩
    rw [eqv_list]
    refine ite2 (fun e => ?_) (fun e => ?_)
    · have hne : 0 < left.length := by
        cases left with
        | nil => simp at e
        | cons a b => simp
      refine ⟨fun σ' H' => ∃ (left' os' : List Nat), σ' = [some (.ref d), some (.ref l), some (.ref re), some (.ref fo)] ∧ H' re = some (.lst (nI left')) ∧ H' fo = some (.lst (nI os')) ∧ (os' ++ left').Perm is ∧ left'.length + 1 = left.length ∧ Dr H' d c r (n + os'.length) ∧ Kp d r H H', fun σ' H' hN => ?_, ?_⟩
      · obtain ⟨left', os', g1, g2, g3, g4, g5, g6, g7⟩ := hN
        exact ⟨left'.length, by omega, left', os', g1, g2, g3, g4, rfl, g6, g7⟩
      refine ⟨.ref fo, rfl, .inl ⟨rfl, _, SqL.of hfo0⟩, .ref re, rfl, .inl ⟨rfl, _, SqL.of hre0⟩, .ref d, rfl, .ref re, rfl, re, _, rfl, .inl (SqL.of hre0), d, c, r, _, _, rfl, h4.same s0, by omega, by rw [List.length_map]; omega, by rw [List.length_map]; omega, fun H2 k2 l2 D2 kp2 => ?_⟩
      rw [List.length_map] at l2
      have hk2 : k2 < left.length := by omega
      have hre2 : H2 re = some (.lst (nI left)) := kp2 re _ hre0 nre.1 nre.2.2
      have hfo2 : H2 fo = some (.lst (nI os)) := kp2 fo _ hfo0 nfo.1 nfo.2.2
      refine ⟨re, _, _, k2, .int ((left.getD k2 0 : Nat) : Int), rfl, rfl, hre2, by omega, by omega, ?_, nI_at hk2, ?_⟩
      · unfold seqIndex?
        simp only [List.length_map]
        rw [if_neg (show ¬ ((k2 : Int) < 0) by omega), if_pos (by simp; omega)]
        simp
      have hfo3 : (upd H2 re (.lst ((nI left).eraseIdx k2))) fo = some (.lst (nI os)) := by rw [upd_ne nrf.symm]; exact hfo2
      refine ⟨fo, _, _, rfl, rfl, hfo3, by rw [List.length_map]; exact small1000 (by omega), left.eraseIdx k2, os ++ [left.getD k2 0], rfl, ?_, ?_, ?_, ?_, ?_, ?_⟩
      · rw [upd_ne nrf, upd_same]
        congr 2
        unfold nI
        exact erase_map _ _ _
      · rw [upd_same]
        unfold nI
        rw [List.map_append]
        rfl
      · have p1 := erase_perm left k2 (left.getD k2 0) (by rw [List.getD_eq_getElem?_getD, List.getElem?_eq_getElem hk2]; rfl)
        refine List.Perm.trans ?_ h3
        rw [List.append_assoc]
        exact (List.perm_append_comm.trans p1).append_left os
      · rw [List.length_eraseIdx_of_lt hk2]
        omega
      · rw [List.length_append]
        exact ((D2.upd nre.1 nre.2.1 nre.2.2).upd nfo.1 nfo.2.1 nfo.2.2)
      · intro b u eb n1 n2
        rw [upd_ne (ne_of_none eb freH), upd_ne (ne_of_none eb hre)]
        exact kp2 b u (s0 _ _ (h5 b u eb n1 n2)) n1 n2
    · have hnil : left = [] := by
        cases left with
        | nil => rfl
        | cons a b => exact absurd (by simp) e
      subst hnil
      rw [List.append_nil] at h3
      exact ⟨_, rfl, q _ fo os freH hfo0 h3 ((h4.same s0).mono (by rw [h3.length_eq]; exact Nat.le_refl _)) (h5.trans s0.kp)⟩
end
/-! ### other names -/
def oAt (os : List Nat) (i : Nat) : Nat := os.getD i 0
def renRow (t : List (List Int)) (os : List Nat) (h : Nat) : List Int := (List.range h).map fun l => lev t (oAt os h) (oAt os l)
def ren (t : List (List Int)) (os : List Nat) (n : Nat) : List (List Int) := (List.range n).map (renRow t os)
theorem ren_len (t : List (List Int)) (os : List Nat) (n : Nat) : (ren t os n).length = n := by
  unfold ren
  rw [List.length_map, List.length_range]
theorem ren_at {t : List (List Int)} {os : List Nat} {n h : Nat} (hh : h < n) : (ren t os n)[h]? = some (renRow t os h) := by
  unfold ren
  rw [List.getElem?_map, List.getElem?_range hh]
  rfl
theorem renRow_len (t : List (List Int)) (os : List Nat) (h : Nat) : (renRow t os h).length = h := by
  unfold renRow
  rw [List.length_map, List.length_range]
theorem renRow_at {t : List (List Int)} {os : List Nat} {h l : Nat} (hl : l < h) : (renRow t os h)[l]? = some (lev t (oAt os h) (oAt os l)) := by
  unfold renRow
  rw [List.getElem?_map, List.getElem?_range hl]
  rfl
theorem getD_some {α : Type} {l : List α} {i : Nat} {x d : α} (h : l[i]? = some x) : l.getD i d = x := by
  rw [List.getD_eq_getElem?_getD, h]
  rfl
structure Ord (os : List Nat) (n : Nat) : Prop where
  len : os.length = n
  lt : ∀ i, i < n → oAt os i < n
  inj : ∀ i j, i < n → j < n → oAt os i = oAt os j → i = j
  sur : ∀ k, k < n → ∃ i, i < n ∧ oAt os i = k
theorem oAt_eq {os : List Nat} {i : Nat} (h : i < os.length) : oAt os i = os[i] := by
  unfold oAt
  rw [List.getD_eq_getElem?_getD, List.getElem?_eq_getElem h]
  rfl
theorem Ord.of_perm {os : List Nat} {n : Nat} (h : os.Perm (List.range n)) : Ord os n := by
  have hl : os.length = n := by rw [h.length_eq, List.length_range]
  have nd : os.Nodup := h.nodup_iff.mpr List.nodup_range
  refine ⟨hl, fun i hi => ?_, fun i j hi hj e => ?_, fun k hk => ?_⟩
  · rw [oAt_eq (by omega)]
    exact List.mem_range.mp (h.mem_iff.mp (List.getElem_mem _))
  · rw [oAt_eq (by omega), oAt_eq (by omega)] at e
    exact (List.getElem_inj nd).mp e
  · obtain ⟨i, hi, e⟩ := List.getElem_of_mem (h.mem_iff.mpr (List.mem_range.mpr hk))
    exact ⟨i, by omega, by rw [oAt_eq hi]; exact e⟩
theorem Ord.id (n : Nat) : Ord (List.range n) n := Ord.of_perm (.refl _)
theorem oAt_range {n i : Nat} (h : i < n) : oAt (List.range n) i = i := by
  rw [oAt_eq (by rw [List.length_range]; exact h)]
  exact List.getElem_range _
theorem ren_WT {t : List (List Int)} {os : List Nat} {n : Nat} (hW : WT t) (hn : t.length = n) (ho : Ord os n) : WT (ren t os n) := by
  intro h ns hns
  have hh : h < n := by
    have := (List.getElem?_eq_some_iff.mp hns).1
    rwa [ren_len] at this
  rw [ren_at hh] at hns
  cases Option.some.inj hns
  refine ⟨renRow_len t os h, fun x hx => ?_⟩
  unfold renRow at hx
  obtain ⟨l, hl, rfl⟩ := List.mem_map.mp hx
  have hlh := List.mem_range.mp hl
  have a := ho.lt h hh
  have b := ho.lt l (by omega)
  exact hW.lev (by omega) (by omega) fun e => by
    have := ho.inj h l hh (by omega) e
    omega
theorem ren_lev {t : List (List Int)} {os : List Nat} {n i j : Nat} (hi : i < n) (hj : j < n) : lev (ren t os n) i j = lev t (oAt os i) (oAt os j) := by
  by_cases e : i = j
  · subst e
    rw [lev_self, lev_self]
  · have key : ∀ a b, b < a → a < n → ((ren t os n).getD a []).getD b 0 = lev t (oAt os a) (oAt os b) := fun a b hab ha => by
      rw [getD_some (ren_at ha), getD_some (renRow_at hab)]
    rw [show lev (ren t os n) i j = ((ren t os n).getD (max i j) []).getD (min i j) 0 by unfold lev; rw [if_neg e]]
    rcases Nat.lt_or_gt_of_ne e with h | h
    · rw [Nat.max_eq_right (by omega), Nat.min_eq_left (by omega), key j i h hj, lev_comm]
    · rw [Nat.max_eq_left (by omega), Nat.min_eq_right (by omega), key i j h hi]
/-- a table under other names -/
def Same2 (t t1 : List (List Int)) (os : List Nat) : Prop := t1.length = t.length ∧ ∀ i j, i < t.length → j < t.length → lev t1 i j = lev t (oAt os i) (oAt os j)
theorem even_names {t t1 : List (List Int)} {os : List Nat} (hW : WT t) (hW1 : WT t1) (ho : Ord os t.length) (h : Same2 t t1 os) : AllEven t1 ↔ AllEven t := by
  obtain ⟨hl, h⟩ := h
  constructor
  · intro hA
    have u := ultra_of_even hW1 hA
    refine even_of_ultra fun i j k hi hj hk => ?_
    obtain ⟨i', hi', rfl⟩ := ho.sur i hi
    obtain ⟨j', hj', rfl⟩ := ho.sur j hj
    obtain ⟨k', hk', rfl⟩ := ho.sur k hk
    have := u i' j' k' (by omega) (by omega) (by omega)
    rw [h i' k' hi' hk', h i' j' hi' hj', h j' k' hj' hk'] at this
    exact this
  · intro hA
    have u := ultra_of_even hW hA
    refine even_of_ultra fun i j k hi hj hk => ?_
    rw [hl] at hi hj hk
    rw [h i k hi hk, h i j hi hj, h j k hj hk]
    exact u _ _ _ (ho.lt i hi) (ho.lt j hj) (ho.lt k hk)
theorem mem_flat {t : List (List Int)} (hW : WT t) (k : Int) : k ∈ t.flatten ↔ ∃ i j, i < t.length ∧ j < t.length ∧ i ≠ j ∧ lev t i j = k := by
  constructor
  · intro h
    obtain ⟨ns, hns, hk⟩ := List.mem_flatten.mp h
    obtain ⟨i, hi, rfl⟩ := List.getElem_of_mem hns
    obtain ⟨j, hj, rfl⟩ := List.getElem_of_mem hk
    have hl := (hW i t[i] (List.getElem?_eq_getElem hi)).1
    refine ⟨i, j, hi, by omega, by omega, ?_⟩
    unfold lev
    rw [if_neg (by omega), Nat.max_eq_left (by omega), Nat.min_eq_right (by omega), getD_some (List.getElem?_eq_getElem hi), getD_some (List.getElem?_eq_getElem hj)]
  · rintro ⟨i, j, hi, hj, hij, rfl⟩
    exact lev_mem hW hi hj hij
theorem flat_names {t t1 : List (List Int)} {os : List Nat} (hW : WT t) (hW1 : WT t1) (ho : Ord os t.length) (h : Same2 t t1 os) (k : Int) : k ∈ t1.flatten ↔ k ∈ t.flatten := by
  obtain ⟨hl, h⟩ := h
  rw [mem_flat hW1, mem_flat hW]
  constructor
  · rintro ⟨i, j, hi, hj, hij, rfl⟩
    rw [hl] at hi hj
    exact ⟨oAt os i, oAt os j, ho.lt i hi, ho.lt j hj, fun e => hij (ho.inj i j hi hj e), (h i j hi hj).symm⟩
  · rintro ⟨i, j, hi, hj, hij, rfl⟩
    obtain ⟨i', hi', rfl⟩ := ho.sur i hi
    obtain ⟨j', hj', rfl⟩ := ho.sur j hj
    exact ⟨i', j', by omega, by omega, fun e => hij (by rw [e]), h i' j' hi' hj'⟩
theorem count_max3b {a b c m : Int} (hm : m ∈ [a, b, c]) (hx : ∀ y, y ∈ [a, b, c] → y ≤ m) : (1 < [a, b, c].count m) ↔ Ev3 a b c := by
  have h := count_max3 hm hx
  have hp : 0 < [a, b, c].count m := List.count_pos_iff.mpr hm
  constructor
  · intro z
    exact Classical.byContradiction fun n => by
      have := h.mpr n
      omega
  · intro z
    have : [a, b, c].count m ≠ 1 := fun e => h.mp e z
    omega
section
variable {P : Program} {w : World} {K : PySem.W.Frag} {mg : Str → Option Value} {base : Heap}
def sp_renamed (K : PySem.W.Frag) : Sp := fun vs H Q _ => ∃ (tv : V) (t : List (List Int)) (op : Addr) (os : List Nat), vs = [tv, .ref op] ∧ TT K H tv t ∧ WT t ∧ t.length ≤ 20 ∧ H op = some (.lst (nI os)) ∧ Ord os t.length ∧
  ∀ (H' : Hp) (v : V), Sm H H' → TT K H' v (ren t os t.length) → Q v H'
theorem ok_renamed {f fL : Addr} {fd fdL : FuncData} (F : Fun K "_law_renamed" "_law_renamed" s_L_renamed f fd) (DL : Df K mg "_law_level" s_L_level fL fdL ["_law_table_here", "_law_one_here", "_law_other"]) (B : Bi mg) : FnOk P w K mg base CX0 2 f fd ["_law_table_here", "_law_order"] (sp_renamed K) := by
  have GL : FnOk P w K mg base CX0 1 fL fdL ["_law_table_here", "_law_one_here", "_law_other"] (sp_level K) := ok_level DL.F B
  refine F.ok sc_L_renamed (fun vs H Q E h => ?_) (fun cdv A outer s H vs Q E hr h => ?_)
  · obtain ⟨tv, t, op, os, rfl, _⟩ := h
    rfl
  · obtain ⟨tv, t, op, os, rfl, hT, hW, h20, hop, ho, q⟩ := h
    have nd := sc_L_renamed.nd
    refine ⟨_, pss_cons (ps_set (i := 2) nd rfl (.inl rfl) (pe_lst pa_nil))
      (pss_cons (ps_for PassesOwn.never rfl (pi_range1 rfl B.range (pa_cons (pe_len B (pv 0)) pa_nil)) (pg_name (i := 3) nd rfl (.inr rfl))
        (pss_cons (ps_setLc (i := 4) (own := [("_law_low", 5)]) (g := gName 5) (tt := tYes) (te := tCall (sp_level K) [] E0 (tCons (tVar 0) (tCons (tOp (rIxL K) (tVar 1) (tVar 3)) (tCons (tOp (rIxL K) (tVar 1) (tVar 5)) tNil)))) rfl nd rfl rfl (sw_true rfl rfl rfl (by decide +kernel)) (pi_range1 rfl B.range (pa_cons (pv 3) pa_nil)) (blkOk_by (N := N_L_renamed) (sc := defScope s_L_renamed) (by decide +kernel))
          (fun _ _ _ _ _ => pg_name (i := 5) nd rfl (.inl rfl)) (fun _ _ _ _ _ => pts_nil) (fun _ _ _ _ _ => pe_cl DL GL hr (pa_cons (pv 0) (pa_cons (pe_ix ix_list (pv 1) (pv 3) (fun _ _ => rfl)) (pa_cons (pe_ix ix_list (pv 1) (pv 5) (fun _ _ => rfl)) pa_nil)))))
        (pss_one (ps_expr (pe_bm PySem.F.plainAttrs_list PySem.F.slot_list_append PySem.F.type_list_append mt_append (pv 2) (pa_cons (pe_callTy call_tuple_of (by rfl) B.tuple (by decide +kernel) (pa_cons (pv 4) pa_nil)) pa_nil))))))
      (pss_one (ps_ret (pe_callTy call_tuple_of (by rfl) B.tuple (by decide +kernel) (pa_cons (pv 2) pa_nil))))), ?_⟩
    obtain ⟨n, hn⟩ : ∃ n, n = t.length := ⟨_, rfl⟩
    rw [← hn] at ho q
    obtain ⟨tp, rs, rfl, htp, hR⟩ := id hT
    have hrl := hR.1
    refine ⟨Nat.zero_le _, fun o ho0 => ?_⟩
    have so : Sm H (upd H o (.lst [])) := Sm.new ho0
    refine ⟨.ref tp, rfl, tp, rs, rfl, .inr (so.sqT htp), _, rfl, by omega, by omega, for_range (n := (rs.length : Int).toNat) (fun h σ Hx => ∃ x3 x4 xs, σ = [some (.ref tp), some (.ref op), some (.ref o), x3, x4, none] ∧ Hx o = some (.lst xs) ∧ Rows K Hx xs ((ren t os n).take h) ∧ Sm H Hx)
      ⟨none, none, [], rfl, upd_same, by rw [List.take_zero]; exact Rows.nil, so⟩ (fun h σ Hx hh hI => ?_) (fun σ Hx hI => ?_)⟩
    · obtain ⟨x3, x4, xs, rfl, hx, hRx, sx⟩ := hI
      have hhn : h < n := by omega
      have hlx := hRx.1
      rw [List.length_take, ren_len] at hlx
      show _
      refine ⟨.int (0 + (h : Int)), rfl, _, rfl, by omega, by omega, fun D hDn => lc_range (n := (0 + (h : Int)).toNat) (fun l Hy => Hy D = some (.lst (((renRow t os h).take l).map V.int)) ∧ Sm Hx Hy) ⟨by rw [List.take_zero]; exact upd_same, Sm.new hDn⟩ (fun l Hy hl hP => ?_) (fun Hy hP => ?_)⟩
      · obtain ⟨h1, h2⟩ := hP
        have sy := sx.trans h2
        have hlh : l < h := by omega
        refine ⟨rfl, .ref tp, rfl, .ref op, rfl, .int (0 + (h : Int)), rfl, op, _, _, _, rfl, rfl, SqL.of (sy _ _ hop), by rw [Int.zero_add]; exact atI_nat (nI_at (by rw [ho.len]; omega)), .ref op, rfl, .int (0 + (l : Int)), rfl, op, _, _, _, rfl, rfl, SqL.of (sy _ _ hop), by rw [Int.zero_add]; exact atI_nat (nI_at (by rw [ho.len]; omega)), tp, rs, t, oAt os h, oAt os l, rfl, .inr (sy.sqT htp), hR.same sy, hW, by have := ho.lt h hhn; omega, by have := ho.lt l (by omega); omega, ?_⟩
        refine ⟨_, h1, ?_, ?_, ?_⟩
        · rw [List.length_map, List.length_take, renRow_len]
          exact small1000 (by omega)
        · rw [upd_same, List.take_add_one, renRow_at hlh, List.map_append]
          rfl
        · intro b u e
          rw [upd_ne (ne_of_none e hDn)]
          exact h2 b u e
      · obtain ⟨h1, h2⟩ := hP
        rw [List.take_of_length_le (by rw [renRow_len]; omega)] at h1
        have hxy := h2 _ _ hx
        refine ⟨.ref o, rfl, .inl ⟨rfl, _, SqL.of hxy⟩, .ref D, rfl, D, _, rfl, .inl ⟨SqL.of h1, fun p5 hp5 => ?_⟩⟩
        have hx5 := Sm.new (o := .tup ((renRow t os h).map V.int)) hp5 _ _ hxy
        refine ⟨o, _, _, rfl, rfl, hx5, small1000 (by omega), _, _, _, rfl, upd_same, ?_, ?_⟩
        · have e : (ren t os n).take (h + 1) = (ren t os n).take h ++ [renRow t os h] := by
            rw [List.take_add_one, ren_at hhn]
            rfl
          rw [e]
          exact (((hRx.same h2).same (Sm.new hp5)).snoc ⟨p5, rfl, SqT.of upd_same⟩).upd hx5
        · intro b u e
          rw [upd_ne (ne_of_none e ho0)]
          exact Sm.new hp5 _ _ (h2 _ _ (sx b u e))
    · obtain ⟨x3, x4, xs, rfl, hx, hRx, sx⟩ := hI
      rw [List.take_of_length_le (by rw [ren_len]; omega)] at hRx
      refine ⟨.ref o, rfl, o, xs, rfl, .inl ⟨SqL.of hx, fun p hp => ?_⟩⟩
      exact q _ _ (sx.trans (Sm.new hp)) ⟨p, xs, rfl, SqT.of upd_same, hRx.same (Sm.new hp)⟩
def sp_samel (K : PySem.W.Frag) : Sp := fun vs H Q _ => ∃ (tv uv : V) (t t1 : List (List Int)) (op : Addr) (os : List Nat), vs = [tv, uv, .ref op] ∧ TT K H tv t ∧ WT t ∧ TT K H uv t1 ∧ WT t1 ∧ t.length ≤ 20 ∧ H op = some (.lst (nI os)) ∧ Ord os t.length ∧ Same2 t t1 os ∧ ∀ H', Sm H H' → Q (.bl true) H'
theorem ok_samel {f fO : Addr} {fd fdO : FuncData} (F : Fun K "_law_same_levels" "_law_same_levels" s_L_same_levels f fd) (DO : Df K mg "level_of" s_level_of fO fdO ["table", "one", "other"]) (T : ItemDefs K mg) : FnOk P w K mg base CX0 5 f fd ["_law_table_here", "_law_other", "_law_order"] (sp_samel K) := by
  have B := T.B
  have GO : FnOk P w K mg base CX0 4 fO fdO ["table", "one", "other"] (sp_lb K) := ok_lo DO.F T
  refine F.ok sc_L_same_levels (fun vs H Q E h => ?_) (fun cdv A outer s H vs Q E hr h => ?_)
  · obtain ⟨tv, uv, t, t1, op, os, rfl, _⟩ := h
    rfl
  · obtain ⟨tv, uv, t, t1, op, os, rfl, hT, hW, hT1, hW1, h20, hop, ho, hS, q⟩ := h
    have nd := sc_L_same_levels.nd
    refine ⟨_, pss_cons (ps_for PassesOwn.never rfl (pi_range1 rfl B.range (pa_cons (pe_len B (pv 0)) pa_nil)) (pg_name (i := 3) nd rfl (.inr rfl))
        (pss_cons (ps_setLc (i := 4) (own := [("_law_two", 5)]) (g := gName 5) (tt := tYes) rfl nd rfl rfl (sw_true rfl rfl rfl (by decide +kernel)) (pi_range1 rfl B.range (pa_cons (pe_len B (pv 0)) pa_nil)) (blkOk_by (N := N_L_same_levels) (sc := defScope s_L_same_levels) (by decide +kernel))
          (fun _ _ _ _ _ => pg_name (i := 5) nd rfl (.inl rfl)) (fun _ _ _ _ _ => pts_nil) (fun _ _ _ _ _ => pe_cl DO GO hr (pa_cons (pv 1) (pa_cons (pv 3) (pa_cons (pv 5) pa_nil)))))
        (pss_one (ps_if (pt_cmpR (op_neD hr.units) (pv 4) (pe_lc (own := [("_law_two", 5)]) (g := gName 5) (tt := tYes) (te := tCall (sp_lb K) [] E0 (tCons (tVar 0) (tCons (tOp (rIxL K) (tVar 2) (tVar 3)) (tCons (tOp (rIxL K) (tVar 2) (tVar 5)) tNil)))) rfl nd (pi_range1 rfl B.range (pa_cons (pe_len B (pv 0)) pa_nil)) (blkOk_by (N := N_L_same_levels) (sc := defScope s_L_same_levels) (by decide +kernel))
          (fun _ _ _ _ _ => pg_name (i := 5) nd rfl (.inl rfl)) (fun _ _ _ _ _ => pts_nil) (fun _ _ _ _ _ => pe_cl DO GO hr (pa_cons (pv 0) (pa_cons (pe_ix ix_list (pv 2) (pv 3) (fun _ _ => rfl)) (pa_cons (pe_ix ix_list (pv 2) (pv 5) (fun _ _ => rfl)) pa_nil))))) (nomark _)) pss_never pss_nil))))
      (pss_one (ps_ret pe_bl)), ?_⟩
    obtain ⟨n, hn⟩ : ∃ n, n = t.length := ⟨_, rfl⟩
    obtain ⟨tp, rs, rfl, htp, hR⟩ := id hT
    have hrl := hR.1
    have en : (rs.length : Int).toNat = n := by omega
    obtain ⟨hl1, hlev⟩ := hS
    rw [← hn] at ho hl1 hlev
    refine ⟨.ref tp, rfl, tp, rs, rfl, .inr htp, _, rfl, by omega, by omega, for_range (n := (rs.length : Int).toNat) (fun i σ Hx => ∃ x3 x4, σ = [some (.ref tp), some uv, some (.ref op), x3, x4, none] ∧ Sm H Hx) ⟨none, none, rfl, Sm.refl _⟩ (fun i σ Hx hi hI => ?_) (fun σ Hx hI => ?_)⟩
    · obtain ⟨x3, x4, rfl, sx⟩ := hI
      have hin : i < n := by omega
      show _
      refine ⟨.ref tp, rfl, tp, rs, rfl, .inr (sx.sqT htp), _, rfl, by omega, by omega, fun D hDn => lc_range (n := (rs.length : Int).toNat) (fun j Hy => Hy D = some (.lst (((List.range j).map fun k => lev t1 i k).map V.int)) ∧ Sm Hx Hy) ⟨upd_same, Sm.new hDn⟩ (fun j Hy hj hP => ?_) (fun Hy hP => ?_)⟩
      · obtain ⟨h1, h2⟩ := hP
        refine ⟨rfl, _, rfl, .int (0 + (i : Int)), rfl, .int (0 + (j : Int)), rfl, _, t1, i, j, by rw [Int.zero_add, Int.zero_add]; rfl, hT1.same (sx.trans h2), hW1, by omega, by omega, _, h1, by rw [List.length_map, List.length_map, List.length_range]; exact small1000 (by omega), ?_, ?_⟩
        · rw [upd_same, List.range_succ, List.map_append, List.map_append]
          rfl
        · intro b u e
          rw [upd_ne (ne_of_none e hDn)]
          exact h2 b u e
      · obtain ⟨h1, h2⟩ := hP
        rw [en] at h1
        have sy := sx.trans h2
        refine ⟨.ref D, rfl, .ref tp, rfl, tp, rs, rfl, .inr (sy.sqT htp), _, rfl, by omega, by omega, fun D2 hD2 => lc_range (n := (rs.length : Int).toNat) (fun j Hz => Hz D2 = some (.lst (((List.range j).map fun k => lev t (oAt os i) (oAt os k)).map V.int)) ∧ Sm Hy Hz) ⟨upd_same, Sm.new hD2⟩ (fun j Hz hj hP => ?_) (fun Hz hP => ?_)⟩
        · obtain ⟨g1, g2⟩ := hP
          have sz := sy.trans g2
          refine ⟨rfl, .ref tp, rfl, .ref op, rfl, .int (0 + (i : Int)), rfl, op, _, _, _, rfl, rfl, SqL.of (sz _ _ hop), by rw [Int.zero_add]; exact atI_nat (nI_at (by rw [ho.len]; omega)), .ref op, rfl, .int (0 + (j : Int)), rfl, op, _, _, _, rfl, rfl, SqL.of (sz _ _ hop), by rw [Int.zero_add]; exact atI_nat (nI_at (by rw [ho.len]; omega)), _, t, oAt os i, oAt os j, rfl, hT.same sz, hW, by have := ho.lt i hin; omega, by have := ho.lt j (by omega); omega, _, g1, by rw [List.length_map, List.length_map, List.length_range]; exact small1000 (by omega), ?_, ?_⟩
          · rw [upd_same, List.range_succ, List.map_append, List.map_append]
            rfl
          · intro b u e
            rw [upd_ne (ne_of_none e hD2)]
            exact g2 b u e
        · obtain ⟨g1, g2⟩ := hP
          rw [en] at g1
          refine ⟨_, _, dp_list (g2 _ _ h1), dp_list g1, shaped_list _, shaped_list _, _, rfl, ?_⟩
          rw [eqv_list]
          refine iteNS ?_ ?_
          · refine List.map_congr_left fun k hk => ?_
            exact hlev i k hin (List.mem_range.mp hk)
          · exact ⟨_, _, rfl, sy.trans g2⟩
    · obtain ⟨x3, x4, rfl, sx⟩ := hI
      exact q _ sx
def sp_Lev (K : PySem.W.Frag) : Sp := fun vs H Q _ => ∃ (tv : V) (t : List (List Int)) (p : Addr) (i j k : Nat), vs = [tv, .ref p] ∧ TT K H tv t ∧ WT t ∧ i < t.length ∧ j < t.length ∧ k < t.length ∧ H p = some (.lst (nI [i, j, k])) ∧ ∀ (H' : Hp) (b : Bool), Sm H H' → (b = true ↔ Ev t i j k) → Q (.bl b) H'
theorem ok_Lev {f fO : Addr} {fd fdO : FuncData} (F : Fun K "_law_is_even" "_law_is_even" s_L_is_even f fd) (DO : Df K mg "level_of" s_level_of fO fdO ["table", "one", "other"]) (T : ItemDefs K mg) : FnOk P w K mg base CX0 5 f fd ["_law_table_here", "_law_three"] (sp_Lev K) := by
  have B := T.B
  have GO : FnOk P w K mg base CX0 4 fO fdO ["table", "one", "other"] (sp_lb K) := ok_lo DO.F T
  refine F.ok sc_L_is_even (fun vs H Q E h => ?_) (fun cdv A outer s H vs Q E hr h => ?_)
  · obtain ⟨tv, t, p, i, j, k, rfl, _⟩ := h
    rfl
  · obtain ⟨tv, t, p, i, j, k, rfl, hT, hW, hi, hj, hk, hp, q⟩ := h
    have nd := sc_L_is_even.nd
    refine ⟨_, pss_cons (ps_set (i := 2) nd rfl (.inl rfl) (pe_lst (pa_cons (pe_cl DO GO hr (pa_cons (pv 0) (pa_cons (pe_ix ix_list (pv 1) pe_int (fun _ _ => rfl)) (pa_cons (pe_ix ix_list (pv 1) pe_int (fun _ _ => rfl)) pa_nil)))) (pa_cons (pe_cl DO GO hr (pa_cons (pv 0) (pa_cons (pe_ix ix_list (pv 1) pe_int (fun _ _ => rfl)) (pa_cons (pe_ix ix_list (pv 1) pe_int (fun _ _ => rfl)) pa_nil)))) pa_nil))))
      (pss_cons (ps_expr (pe_bm PySem.F.plainAttrs_list PySem.F.slot_list_append PySem.F.type_list_append mt_append (pv 2) (pa_cons (pe_cl DO GO hr (pa_cons (pv 0) (pa_cons (pe_ix ix_list (pv 1) pe_int (fun _ _ => rfl)) (pa_cons (pe_ix ix_list (pv 1) pe_int (fun _ _ => rfl)) pa_nil)))) pa_nil)))
      (pss_one (ps_ret (pe_cmpR op_gt (pe_bm PySem.F.plainAttrs_list PySem.F.slot_list_count PySem.F.type_list_count mt_lcount (pv 2) (pa_cons (pe_callB (cr_max rfl) (by rfl) B.max (by decide +kernel) (pa_cons (pv 2) pa_nil)) pa_nil)) pe_int (nomark _))))), ?_⟩
    have a0 : atI (nI [i, j, k]) 0 = some (.int (i : Int)) := atI_nat (j := 0) rfl
    have a1 : atI (nI [i, j, k]) 1 = some (.int (j : Int)) := atI_nat (j := 1) rfl
    have a2 : atI (nI [i, j, k]) 2 = some (.int (k : Int)) := atI_nat (j := 2) rfl
    refine ⟨tv, rfl, .ref p, rfl, p, _, _, _, rfl, rfl, SqL.of hp, a0, .ref p, rfl, p, _, _, _, rfl, rfl, SqL.of hp, a1, tv, t, i, j, rfl, hT, hW, hi, hj, ?_⟩
    refine ⟨tv, rfl, .ref p, rfl, p, _, _, _, rfl, rfl, SqL.of hp, a0, .ref p, rfl, p, _, _, _, rfl, rfl, SqL.of hp, a2, tv, t, i, k, rfl, hT, hW, hi, hk, ?_⟩
    refine ⟨(by show 2 ≤ sizeLine; decide), fun l hl => ?_⟩
    have sl : Sm H (upd H l (.lst [.int (lev t i j), .int (lev t i k)])) := Sm.new hl
    have hpl := sl _ _ hp
    refine ⟨.ref l, rfl, .inl ⟨rfl, _, SqL.of upd_same⟩, tv, rfl, .ref p, rfl, p, _, _, _, rfl, rfl, SqL.of hpl, a1, .ref p, rfl, p, _, _, _, rfl, rfl, SqL.of hpl, a2, tv, t, j, k, rfl, hT.same sl, hW, hj, hk, ?_⟩
    refine ⟨l, _, _, rfl, rfl, upd_same, (by show 2 < sizeLine; decide), ?_⟩
    rw [upd_upd]
    have sv : Sm H (upd H l (.lst [.int (lev t i j), .int (lev t i k), .int (lev t j k)])) := Sm.new hl
    refine ⟨.ref l, rfl, .inl ⟨rfl, _, SqL.of upd_same⟩, .ref l, rfl, l, [lev t i j, lev t i k, lev t j k], rfl, SqL.of upd_same, (by show 0 < 3; decide), fun mx hmx hmax => ?_⟩
    refine ⟨l, [lev t i j, lev t i k, lev t j k], mx, rfl, rfl, SqL.of upd_same, _, _, rfl, rfl, ?_⟩
    refine q _ _ sv ?_
    have h := count_max3b hmx hmax
    rw [decide_eq_true_iff]
    constructor
    · intro z
      exact h.mp (by omega)
    · intro z
      have := h.mpr z
      omega
end
/-! ### what uneven_items tells -/
def Res (t : List (List Int)) (d : PyData) : Prop := (AllEven t ∧ d = .none) ∨ ∃ i j k : Nat, FirstUneven t i j k ∧ d = .tuple [.int (i : Int), .int (j : Int), .int (k : Int)]
theorem Res.eq {t : List (List Int)} {d e : PyData} (h : Res t d) (g : Res t e) : d = e := by
  rcases h with ⟨h1, rfl⟩ | ⟨i, j, k, h1, rfl⟩ <;> rcases g with ⟨g1, rfl⟩ | ⟨i', j', k', g1, rfl⟩
  · rfl
  · exact (first_not_all g1 h1).elim
  · exact (first_not_all h1 g1).elim
  · obtain ⟨rfl, rfl, rfl⟩ := first_unique h1 g1
    rfl
theorem Res.ok {t : List (List Int)} {d : PyData} (h : Res t d) : okD 1 d := by
  rcases h with ⟨_, rfl⟩ | ⟨i, j, k, _, rfl⟩
  · exact trivial
  · exact okD_ints 0 [(i : Int), (j : Int), (k : Int)] (by show 3 ≤ 1000; decide)
section
variable {P : Program} {w : World} {K : PySem.W.Frag} {mg : Str → Option Value} {base : Heap}
theorem sp_uneven_res {H : Hp} {Q : VK} {E : XK} {tv : V} {t : List (List Int)} (hT : TT K H tv t) (hW : WT t) (h20 : t.length ≤ 20) (q : ∀ H' v d, Sm H H' → Res t d → Dp K H' v d → Q v H') : sp_uneven K [tv] H Q E :=
  ⟨tv, t, rfl, hT, hW, h20, fun H' s h => q H' .non .none s (.inl ⟨h, rfl⟩) .non, fun H' p i j k s h hp => q H' (.ref p) _ s (.inr ⟨i, j, k, h, rfl⟩) (.tup hp (.cons (.int _) (.cons (.int _) (.cons (.int _) .nil))))⟩
def sp_unevenR (K : PySem.W.Frag) : Sp := fun vs H Q _ => ∃ (tv : V) (t : List (List Int)), vs = [tv] ∧ TT K H tv t ∧ WT t ∧ t.length ≤ 20 ∧ ∀ (H' : Hp) (v : V) (d : PyData), Sm H H' → Res t d → Dp K H' v d → Q v H'
theorem unevenR {k : Nat} {f : Addr} {fd : FuncData} {ps : List Str} (G : FnOk P w K mg base CX0 k f fd ps (sp_uneven K)) : FnOk P w K mg base CX0 k f fd ps (sp_unevenR K) :=
  G.imp fun vs H Q E h => by
    obtain ⟨tv, t, rfl, hT, hW, h20, q⟩ := h
    exact sp_uneven_res hT hW h20 q
end
theorem rg_nI (n : Nat) : rgV 0 (n : Int) = nI (List.range n) := by
  unfold rgV nI
  rw [show ((n : Int) - 0).toNat = n by omega]
  refine List.map_congr_left fun i _ => ?_
  rw [Int.zero_add]
section
variable {P : Program} {w : World} {K : PySem.W.Frag} {mg : Str → Option Value} {base : Heap}
/-! ### the law -/
structure LawDefs (K : PySem.W.Frag) (mg : Str → Option Value) : Prop where
  D : DrawDefs K mg
  E : EvenDefs K mg
  I : ItemDefs K mg
  Fa : FaultDefs K mg
  draws : ∃ f fd, Df K mg "_law_draws" s_L_draws f fd ["_law_script"]
  table : ∃ f fd, Df K mg "_law_table" s_L_table f fd ["_law_drawn", "_law_count_here"]
  uneven : ∃ f fd, Df K mg "uneven_items" s_uneven_items f fd ["table"]
  isn : ∃ f fd, Df K mg "is_nested" s_is_nested f fd ["table"]
  lvs : ∃ f fd, Df K mg "levels_of" s_levels_of f fd ["table"]
  fault : ∃ f fd, Df K mg "find_fault" s_find_fault f fd ["value"]
  mixed : ∃ f fd, Df K mg "_law_mixed" s_L_mixed f fd ["_law_drawn", "_law_items"]
  renamed : ∃ f fd, Df K mg "_law_renamed" s_L_renamed f fd ["_law_table_here", "_law_order"]
  samel : ∃ f fd, Df K mg "_law_same_levels" s_L_same_levels f fd ["_law_table_here", "_law_other", "_law_order"]
  lev : ∃ f fd, Df K mg "_law_is_even" s_L_is_even f fd ["_law_table_here", "_law_three"]
def sp_law (K : PySem.W.Frag) : Sp := fun vs H Q _ => ∃ (a : Addr) (ns : List Int), vs = [.ref a] ∧ SqL K H a (ns.map V.int) ∧ ns.length ≤ 63 ∧ ∀ H', Q (.bl true) H'
theorem ok_law {f : Addr} {fd : FuncData} (F : Fun K "law" "law" s_law f fd) (T : LawDefs K mg) : FnOk P w K mg base CX0 6 f fd ["_law_script"] (sp_law K) := by
  have B := T.D.B
  obtain ⟨fN, fdN, DN⟩ := T.D.next
  obtain ⟨fC, fdC, DC⟩ := T.D.count
  obtain ⟨fL, fdL, DL⟩ := T.D.level
  obtain ⟨fO, fdO, DO⟩ := T.I.lo
  obtain ⟨f1, fd1, D1⟩ := T.draws
  obtain ⟨f2, fd2, D2⟩ := T.table
  obtain ⟨f3, fd3, D3⟩ := T.uneven
  obtain ⟨f4, fd4, D4⟩ := T.isn
  obtain ⟨f5, fd5, D5⟩ := T.lvs
  obtain ⟨f6, fd6, D6⟩ := T.fault
  obtain ⟨f7, fd7, D7⟩ := T.mixed
  obtain ⟨f8, fd8, D8⟩ := T.renamed
  obtain ⟨f9, fd9, D9⟩ := T.samel
  obtain ⟨f10, fd10, D10⟩ := T.lev
  have GC : FnOk P w K mg base CX0 5 fC fdC ["_law_drawn", "_law_most"] sp_count := (ok_count DC.F DN B).mono (by decide)
  have G1 : FnOk P w K mg base CX0 5 f1 fd1 ["_law_script"] (sp_draws K) := ok_draws D1.F B
  have G2 : FnOk P w K mg base CX0 5 f2 fd2 ["_law_drawn", "_law_count_here"] (sp_table K) := (ok_table D2.F T.D).mono (by decide)
  have G3 : FnOk P w K mg base CX0 5 f3 fd3 ["table"] (sp_unevenR K) := unevenR ((ok_uneven D3.F T.E).mono (by decide))
  have G4 : FnOk P w K mg base CX0 5 f4 fd4 ["table"] (sp_isn K) := (ok_isn D4.F D3 T.E).mono (by decide)
  have G5 : FnOk P w K mg base CX0 5 f5 fd5 ["table"] (sp_lvs K) := ok_lvs D5.F B
  have G6 : FnOk P w K mg base CX0 5 f6 fd6 ["value"] (sp_fault K) := (ok_fault D6.F T.Fa).mono (by decide)
  have G7 : FnOk P w K mg base CX0 5 f7 fd7 ["_law_drawn", "_law_items"] (sp_mixed K) := (ok_mixed D7.F DN B).mono (by decide)
  have G8 : FnOk P w K mg base CX0 5 f8 fd8 ["_law_table_here", "_law_order"] (sp_renamed K) := (ok_renamed D8.F DL B).mono (by decide)
  have G9 : FnOk P w K mg base CX0 5 f9 fd9 ["_law_table_here", "_law_other", "_law_order"] (sp_samel K) := ok_samel D9.F DO T.I
  have G10 : FnOk P w K mg base CX0 5 f10 fd10 ["_law_table_here", "_law_three"] (sp_Lev K) := ok_Lev D10.F DO T.I
  refine F.ok sc_law (fun vs H Q E h => ?_) (fun cdv A outer s H vs Q E hr h => ?_)
  · obtain ⟨a, ns, rfl, _⟩ := h
    rfl
  · obtain ⟨a, ns, rfl, hS, h63, q⟩ := h
    have nd := sc_law.nd
    refine ⟨_, pss_cons (ps_set (i := 1) nd rfl (.inl rfl) (pe_cl D1 G1 hr (pa_cons (pv 0) pa_nil)))
      (pss_cons (ps_for PassesOwn.never rfl (pi_range1 rfl B.range (pa_cons pe_int pa_nil)) (pg_name (i := 2) nd rfl (.inl rfl))
        (pss_cons (ps_set (i := 3) nd rfl (.inl rfl) (pe_cl D2 G2 hr (pa_cons (pv 1) (pa_cons (pe_cl DC GC hr (pa_cons (pv 1) (pa_cons pe_int pa_nil))) pa_nil))))
        (pss_cons (ps_set (i := 4) nd rfl (.inl rfl) (pe_cl D7 G7 hr (pa_cons (pv 1) (pa_cons (pe_listRg rfl (by rfl) B.list (prg_1 (by rfl) B.range (pe_len B (pv 3)))) pa_nil))))
        (pss_cons (ps_set (i := 5) nd rfl (.inl rfl) (pe_cl D8 G8 hr (pa_cons (pv 3) (pa_cons (pv 4) pa_nil))))
        (pss_cons (ps_if (PW.pt (pw_or (pt_cmpR op_notN (pe_cl D6 G6 hr (pa_cons (pv 5) pa_nil)) pe_non (nomark _)) (pw_or1 (pt_not (pt_val (pe_cl D9 G9 hr (pa_cons (pv 3) (pa_cons (pv 5) (pa_cons (pv 4) pa_nil))))))))) pss_never pss_nil)
        (pss_cons (ps_if (PW.pt (pw_or (pt_cmpR (op_neD hr.units) (pe_cl D5 G5 hr (pa_cons (pv 5) pa_nil)) (pe_cl D5 G5 hr (pa_cons (pv 3) pa_nil)) (nomark _)) (pw_or1 (pt_cmpR op_ne (pe_cl D4 G4 hr (pa_cons (pv 5) pa_nil)) (pe_cl D4 G4 hr (pa_cons (pv 3) pa_nil)) (nomark _))))) pss_never pss_nil)
        (pss_one (ps_for PassesOwn.never rfl (pi_list (pe_lst (pa_cons (pe_tup (pa_cons (pv 3) (pa_cons (pe_listRg rfl (by rfl) B.list (prg_1 (by rfl) B.range (pe_len B (pv 3)))) pa_nil))) (pa_cons (pe_tup (pa_cons (pv 5) (pa_cons (pv 4) pa_nil))) pa_nil))))
          (pg_tup rfl (pgs_cons (pg_name (i := 6) nd rfl (.inl rfl)) (pgs_cons (pg_name (i := 7) nd rfl (.inr rfl)) pgs_nil)))
          (pss_cons (ps_set (i := 8) nd rfl (.inl rfl) (pe_cl D3 G3 hr (pa_cons (pv 6) pa_nil)))
          (pss_cons (ps_if (pt_cmpR op_ne (pe_cmpR op_isN (pv 8) pe_non (nomark _)) (pe_cl D4 G4 hr (pa_cons (pv 3) pa_nil)) (nomark _)) pss_never pss_nil)
          (pss_one (ps_if (PW.pt (pw_and (pt_cmpR op_notN (pv 8) pe_non (nomark _)) (pw_and1 (pt_val (pe_cl D10 G10 hr (pa_cons (pv 3) (pa_cons
            (pe_lc (own := [("_law_item", 9)]) (g := gName 9) (tt := tYes) (te := tOp (rIxL K) (tVar 7) (tVar 9)) rfl nd (pi_tup (pv 8)) (blkOk_by (N := N_law) (sc := defScope s_law) (by decide +kernel))
              (fun _ _ _ _ _ => pg_name (i := 9) nd rfl (.inl rfl)) (fun _ _ _ _ _ => pts_nil) (fun _ _ _ _ _ => pe_ix ix_list (pv 7) (pv 9) (fun _ _ => rfl))) pa_nil))))))) pss_never pss_nil))))))))))))
      (pss_one (ps_ret pe_bl))), ?_⟩
    refine ⟨.ref a, rfl, a, ns, rfl, hS, h63, fun H1 d c r s1 Dr1 _ _ _ => ?_⟩
    refine ⟨12, rfl, by decide, by decide, for_range (n := 12) (fun i σ Hx => ∃ x2 x3 x4 x5 x6 x7 x8, σ = [some (.ref a), some (.ref d), x2, x3, x4, x5, x6, x7, x8, none] ∧ Dr Hx d c r (600 * i)) ⟨none, none, none, none, none, none, none, rfl, Dr1⟩ (fun i σ Hx hi hI => ?_) (fun σ Hx hI => ?_)⟩
    · obtain ⟨x2, x3, x4, x5, x6, x7, x8, rfl, hD⟩ := hI
      show _
      refine ⟨.ref d, rfl, .ref d, rfl, d, c, r, _, 12, rfl, hD, by omega, by decide, by decide, fun H2 k2 l2 m2 D2' kp2 => ?_⟩
      refine ⟨d, c, r, _, k2, rfl, D2', by omega, by omega, by omega, fun H3 tv t hT hW htl D3' kp3 => ?_⟩
      have h20 : t.length ≤ 20 := by omega
      obtain ⟨tp, rs, rfl, htp, hR⟩ := id hT
      have hrl := hR.1
      -- order
      refine ⟨.ref d, rfl, .ref tp, rfl, tp, rs, rfl, .inr htp, _, rfl, RgOk.of_le (by decide) (by omega) (by decide) (by omega), fun lp hlp => ?_⟩
      rw [show rgV 0 (rs.length : Int) = nI (List.range t.length) by rw [hrl]; exact rg_nI _]
      have D3n := D3'.new (o := .lst (nI (List.range t.length))) hlp
      refine ⟨d, c, r, _, lp, List.range t.length, rfl, D3n, by omega, SqL.of upd_same, by rw [List.length_range]; exact h20, fun H4 op os hopn hop perm D4' kp4 => ?_⟩
      have ho : Ord os t.length := Ord.of_perm perm
      have hT4 := (hT.same (Sm.new (o := .lst (nI (List.range t.length))) hlp)).kp D3n kp4
      -- other
      refine ⟨_, rfl, .ref op, rfl, _, t, op, os, rfl, hT4, hW, h20, hop, ho, fun H5 uv s5 hU => ?_⟩
      have hT5 := hT4.same s5
      have hop5 := s5 _ _ hop
      have hW1 : WT (ren t os t.length) := ren_WT hW rfl ho
      have hl1 : (ren t os t.length).length = t.length := ren_len _ _ _
      have hS2 : Same2 t (ren t os t.length) os := ⟨hl1, fun i j hi hj => ren_lev hi hj⟩
      -- no fault, the same levels
      refine ⟨_, rfl, uv, _, rfl, hU, hW1, by omega, by omega, fun H6 s6 => ⟨rfl, _, rfl, iteF ?_⟩⟩
      refine ⟨_, rfl, _, rfl, .ref op, rfl, _, uv, t, _, op, os, rfl, hT5.same s6, hW, hU.same s6, hW1, h20, s6 _ _ hop5, ho, hS2, fun H7 s7 => ⟨true, rfl, ?_⟩⟩
      have s57 := s6.trans s7
      -- levels, nested
      refine ⟨_, rfl, uv, _, rfl, hU.same s57, hW1, by omega, fun H8 p8 l8 s8 hp8 srt8 mem8 len8 => ?_⟩
      refine ⟨_, rfl, _, t, rfl, (hT5.same s57).same s8, hW, h20, fun H9 p9 l9 s9 hp9 srt9 mem9 len9 => ?_⟩
      obtain rfl : l8 = l9 := asc_ext srt8 srt9 fun k => by rw [mem8 k, mem9 k]; exact flat_names hW hW1 ho hS2 k
      refine ⟨_, _, dp_tup (s9.sqT hp8), dp_tup hp9, shaped_tup _, shaped_tup _, _, rfl, ?_⟩
      rw [eqv_tup]
      refine iteNS rfl ?_
      have s59 := (s57.trans s8).trans s9
      refine ⟨_, rfl, uv, _, rfl, hU.same s59, hW1, by omega, fun H10 b10 s10 hb10 => ?_⟩
      refine ⟨_, rfl, _, t, rfl, (hT5.same s59).same s10, hW, h20, fun H11 b11 s11 hb11 => ⟨rfl, _, rfl, ?_⟩⟩
      have e1011 : b10 = b11 := by
        have z : (b10 = true) ↔ (b11 = true) := by
          rw [hb10, hb11]
          exact even_names hW hW1 ho hS2
        cases b10 <;> cases b11
        · rfl
        · exact z.mpr rfl
        · exact (z.mp rfl).symm
        · rfl
      rw [e1011]
      refine iteNS rfl ?_
      have s511 := (s59.trans s10).trans s11
      have hTe := hT5.same s511
      have hUe := hU.same s511
      have hope := s511 _ _ hop5
      have Dre := (D4'.same s5).same s511
      -- the two tables with their names
      obtain ⟨tp2, rs2, e2, htp2, hR2⟩ := id hTe
      cases e2
      refine ⟨_, rfl, .ref tp, rfl, tp, rs2, rfl, .inr htp2, _, rfl, RgOk.of_le (by decide) (by have := hR2.1; omega) (by decide) (by omega), fun np hnp => ?_⟩
      rw [show rgV 0 (rs2.length : Int) = nI (List.range t.length) by rw [hR2.1]; exact rg_nI _]
      refine ⟨(by show 2 ≤ sizeLine; decide), fun q1 hq1 => ?_⟩
      have sA : Sm H11 (upd H11 np (.lst (nI (List.range t.length)))) := Sm.new hnp
      have sB := sA.trans (Sm.new (o := .tup [.ref tp, .ref np]) hq1)
      refine ⟨_, rfl, .ref op, rfl, (by show 2 ≤ sizeLine; decide), fun q2 hq2 => ?_⟩
      have sC := sB.trans (Sm.new (o := .tup [uv, .ref op]) hq2)
      refine ⟨(by show 2 ≤ sizeLine; decide), fun ll hll => ?_⟩
      have sD := sC.trans (Sm.new (o := .lst [.ref q1, .ref q2]) hll)
      have hq1' : ∀ {Hy}, Sm (upd (upd (upd (upd H11 np (.lst (nI (List.range t.length)))) q1 (.tup [.ref tp, .ref np])) q2 (.tup [uv, .ref op])) ll (.lst [.ref q1, .ref q2])) Hy → Hy q1 = some (.tup [.ref tp, .ref np]) := fun sy => sy _ _ (Sm.new hll _ _ (Sm.new hq2 _ _ upd_same))
      have hq2' : ∀ {Hy}, Sm (upd (upd (upd (upd H11 np (.lst (nI (List.range t.length)))) q1 (.tup [.ref tp, .ref np])) q2 (.tup [uv, .ref op])) ll (.lst [.ref q1, .ref q2])) Hy → Hy q2 = some (.tup [uv, .ref op]) := fun sy => sy _ _ (Sm.new hll _ _ upd_same)
      have hnp' : (upd (upd (upd (upd H11 np (.lst (nI (List.range t.length)))) q1 (.tup [.ref tp, .ref np])) q2 (.tup [uv, .ref op])) ll (.lst [.ref q1, .ref q2])) np = some (.lst (nI (List.range t.length))) := Sm.new hll _ _ (Sm.new hq2 _ _ (Sm.new hq1 _ _ upd_same))
      have hll' : (upd (upd (upd (upd H11 np (.lst (nI (List.range t.length)))) q1 (.tup [.ref tp, .ref np])) q2 (.tup [uv, .ref op])) ll (.lst [.ref q1, .ref q2])) ll = some (.lst [.ref q1, .ref q2]) := upd_same
      generalize upd (upd (upd (upd H11 np (.lst (nI (List.range t.length)))) q1 (.tup [.ref tp, .ref np])) q2 (.tup [uv, .ref op])) ll (.lst [.ref q1, .ref q2]) = HD at sD hq1' hq2' hnp' hll'
      have hTD := hTe.same sD
      have hUD := hUe.same sD
      have hopD := sD _ _ hope
      refine ⟨ll, rfl, ⟨_, SqL.of hll'⟩, for_list (xs := [.ref q1, .ref q2]) (fun m σ Hy => ∃ x6 x7 x8, σ = [some (.ref a), some (.ref d), some (.int (0 + (i : Int))), some (.ref tp), some (.ref op), some uv, x6, x7, x8, none] ∧ Sm HD Hy) ⟨_, _, _, rfl, Sm.refl _⟩ (fun m σ Hy _ hI => ?_) (fun m v σ Hy hv hI => ?_) (fun σ Hy hI => ?_)⟩
      · obtain ⟨_, _, _, _, sy⟩ := hI
        exact SqL.of (sy _ _ hll')
      · obtain ⟨x6, x7, x8, rfl, sy⟩ := hI
        have hTy := hTD.same sy
        obtain ⟨qv, t1v, t1, npv, os1, rfl, hqv, hT1, hW1', hl1', ho1, hS1, hnv⟩ : ∃ (qv : Addr) (t1v : V) (t1 : List (List Int)) (npv : Addr) (os1 : List Nat), v = .ref qv ∧ Hy qv = some (.tup [t1v, .ref npv]) ∧ TT K Hy t1v t1 ∧ WT t1 ∧ t1.length ≤ 20 ∧ Ord os1 t.length ∧ Same2 t t1 os1 ∧ Hy npv = some (.lst (nI os1)) := by
          match m, hv with
          | 0, hv =>
            cases Option.some.inj hv
            refine ⟨q1, .ref tp, t, np, List.range t.length, rfl, hq1' sy, hTy, hW, h20, Ord.id _, ⟨rfl, fun i j hi hj => by rw [oAt_range hi, oAt_range hj]⟩, sy _ _ hnp'⟩
          | 1, hv =>
            cases Option.some.inj hv
            exact ⟨q2, uv, _, op, os, rfl, hq2' sy, hUD.same sy, hW1, by omega, ho, hS2, sy _ _ hopD⟩
          | m + 2, hv => simp at hv
        refine ⟨qv, _, rfl, SqT.of hqv, rfl, _, _, rfl, _, _, rfl, rfl, ?_⟩
        refine ⟨_, rfl, t1v, t1, rfl, hT1, hW1', hl1', fun Hz vz dz sz hres hdz => ?_⟩
        have hTz := hTy.same sz
        have ev1 : AllEven t1 ↔ AllEven t := even_names hW hW1' ho1 hS1
        refine ⟨vz, rfl, rfl, _, rfl, _, t, rfl, hTz, hW, h20, fun Hw bw sw hbw => ⟨rfl, _, rfl, ?_⟩⟩
        have hnw := sw _ _ (sz _ _ hnv)
        rcases hres with ⟨hA, rfl⟩ | ⟨i1, j1, k1, hFU, rfl⟩
        · cases hdz
          have eb : bw = true := hbw.mpr (ev1.mp hA)
          rw [eb]
          refine iteNS rfl ⟨_, rfl, rfl, _, rfl, iteF ?_⟩
          exact iteF ⟨_, _, _, rfl, (sy.trans sz).trans sw⟩
        · have hno : ¬ AllEven t1 := fun z => first_not_all hFU z
          have eb : bw = false := by
            cases bw
            · rfl
            · exact (hno (ev1.mpr (hbw.mp rfl))).elim
          obtain ⟨⟨ta, tb, tc⟩, hne, _⟩ := id hFU
          have hl11 := hS1.1
          cases hdz with
          | @tup pz xz _ hpz haz =>
            have exz : xz = [.int (i1 : Int), .int (j1 : Int), .int (k1 : Int)] := by
              cases haz with
              | cons h1 r1 =>
                cases r1 with
                | cons h2 r2 =>
                  cases r2 with
                  | cons h3 r3 =>
                    cases r3
                    cases h1
                    cases h2
                    cases h3
                    rfl
            subst exz
            rw [eb]
            refine iteNS (by rw [decide_eq_false (fun e => by cases e)]) ⟨_, rfl, rfl, true, by rw [decide_eq_false (fun e => by cases e)]; rfl, iteT ?_⟩
            refine ⟨_, rfl, .ref pz, rfl, pz, rfl, ⟨_, sw.sqT hpz⟩, fun DD hDD => lc_tup (xs := [.int (i1 : Int), .int (j1 : Int), .int (k1 : Int)]) (fun m Hv => Hv DD = some (.lst (nI ([oAt os1 i1, oAt os1 j1, oAt os1 k1].take m))) ∧ Sm Hw Hv) ⟨upd_same, Sm.new hDD⟩ (fun m Hv _ hP => ?_) (fun m vv Hv hvv hP => ?_) (fun Hv hP => ?_)⟩
            · exact (sw.trans hP.2).sqT hpz
            · obtain ⟨h1, h2⟩ := hP
              have hnv' := h2 _ _ hnw
              obtain ⟨x, hx, rfl, e2, hm3⟩ : ∃ x : Nat, x < t.length ∧ vv = .int (x : Int) ∧ [oAt os1 i1, oAt os1 j1, oAt os1 k1][m]? = some (oAt os1 x) ∧ m < 3 := by
                match m, hvv with
                | 0, h => exact ⟨i1, by omega, (Option.some.inj h).symm, rfl, by decide⟩
                | 1, h => exact ⟨j1, by omega, (Option.some.inj h).symm, rfl, by decide⟩
                | 2, h => exact ⟨k1, by omega, (Option.some.inj h).symm, rfl, by decide⟩
                | m + 3, h => simp at h
              refine ⟨rfl, .ref npv, rfl, .int (x : Int), rfl, npv, _, _, _, rfl, rfl, SqL.of hnv', atI_nat (nI_at (by rw [ho1.len]; exact hx)), _, h1, ?_, ?_, ?_⟩
              · rw [List.length_map, List.length_take]
                exact small1000 (by omega)
              · rw [upd_same, List.take_add_one, e2]
                unfold nI
                rw [List.map_append]
                rfl
              · intro b u e
                rw [upd_ne (ne_of_none e hDD)]
                exact h2 b u e
            · obtain ⟨h1, h2⟩ := hP
              have sv := sw.trans h2
              have a1 := ho1.lt i1 (by omega)
              have a2 := ho1.lt j1 (by omega)
              have a3 := ho1.lt k1 (by omega)
              refine ⟨_, t, DD, oAt os1 i1, oAt os1 j1, oAt os1 k1, rfl, hTz.same sv, hW, a1, a2, a3, h1, fun Hr br sr hbr => ⟨br, rfl, ?_⟩⟩
              have hbf : br = false := by
                cases br
                · rfl
                · refine (hne ?_).elim
                  have z := hbr.mp rfl
                  unfold Ev at z ⊢
                  rw [hS1.2 i1 j1 (by omega) (by omega), hS1.2 i1 k1 (by omega) (by omega), hS1.2 j1 k1 (by omega) (by omega)]
                  exact z
              rw [hbf]
              exact iteF ⟨_, _, _, rfl, ((sy.trans sz).trans sv).trans sr⟩
      · obtain ⟨x6, x7, x8, rfl, sy⟩ := hI
        exact ⟨_, _, _, _, _, _, _, rfl, ((Dre.same sD).same sy).mono (by rw [List.length_range]; omega)⟩
    · obtain ⟨x2, x3, x4, x5, x6, x7, x8, rfl, _⟩ := hI
      exact q _
end
/-! ### what the top has written -/
theorem df_mk {K : PySem.W.Frag} {h : Heap} {mg : Str → Option Value} {x : Str} {st : Stmt} {f : Addr} {od an : Option Addr} {sl : Array (Option Value)} {oc kV dc pm cd ct : Value} {ps : List Str} (X : K.In h) (G : h.Ns mainGlobals mg)
    (a : PySem.W.nsIn K mainGlobals x = some (some (.ref f))) (l : K.lookup f = some ⟨oc, od, .func (PySem.W.fnOf x x (defArgs st) (defBody st) (defScope st) .none kV dc pm an cd ct), sl⟩) (c : PySem.W.codeIn K cd x = true) (k : PySem.W.keepIn K (.ref f) = true)
    (b : ∀ (kV doc pm : Value) (an : Option Addr) (cdv ct : Value) (us : List Value), us.length = ps.length → bindArgs (PySem.W.fnOf x x (defArgs st) (defBody st) (defScope st) .none kV doc pm an cdv ct) ⟨us, []⟩ = pure (ps.zip us)) :
    Df K mg x st f (PySem.W.fnOf x x (defArgs st) (defBody st) (defScope st) .none kV dc pm an cd ct) ps := ⟨fun_mk l c k, (fun_mk l c k).binds b, PySem.W.mg_of X G a⟩
theorem all_mk {l : PySem.W.OpenLaw} {w : World} {K : PySem.W.Frag} {h : Heap} {mg : Str → Option Value} {fa : Addr} (X : K.In h) (G : h.Ns mainGlobals mg) (hfa : mg "law" = some (.ref fa))
    {f1 : Addr} {od1 an1 : Option Addr} {sl1 : Array (Option Value)} {oc1 kV1 dc1 pm1 cd1 ct1 : Value} (a1 : PySem.W.nsIn K mainGlobals "is_whole" = some (some (.ref f1))) (l1 : K.lookup f1 = some ⟨oc1, od1, .func (PySem.W.fnOf "is_whole" "is_whole" (defArgs s_is_whole) (defBody s_is_whole) (defScope s_is_whole) .none kV1 dc1 pm1 an1 cd1 ct1), sl1⟩) (c1 : PySem.W.codeIn K cd1 "is_whole" = true) (k1 : PySem.W.keepIn K (.ref f1) = true)
    {f2 : Addr} {od2 an2 : Option Addr} {sl2 : Array (Option Value)} {oc2 kV2 dc2 pm2 cd2 ct2 : Value} (a2 : PySem.W.nsIn K mainGlobals "is_level" = some (some (.ref f2))) (l2 : K.lookup f2 = some ⟨oc2, od2, .func (PySem.W.fnOf "is_level" "is_level" (defArgs s_is_level) (defBody s_is_level) (defScope s_is_level) .none kV2 dc2 pm2 an2 cd2 ct2), sl2⟩) (c2 : PySem.W.codeIn K cd2 "is_level" = true) (k2 : PySem.W.keepIn K (.ref f2) = true)
    {f3 : Addr} {od3 an3 : Option Addr} {sl3 : Array (Option Value)} {oc3 kV3 dc3 pm3 cd3 ct3 : Value} (a3 : PySem.W.nsIn K mainGlobals "is_item" = some (some (.ref f3))) (l3 : K.lookup f3 = some ⟨oc3, od3, .func (PySem.W.fnOf "is_item" "is_item" (defArgs s_is_item) (defBody s_is_item) (defScope s_is_item) .none kV3 dc3 pm3 an3 cd3 ct3), sl3⟩) (c3 : PySem.W.codeIn K cd3 "is_item" = true) (k3 : PySem.W.keepIn K (.ref f3) = true)
    {f4 : Addr} {od4 an4 : Option Addr} {sl4 : Array (Option Value)} {oc4 kV4 dc4 pm4 cd4 ct4 : Value} (a4 : PySem.W.nsIn K mainGlobals "check_items" = some (some (.ref f4))) (l4 : K.lookup f4 = some ⟨oc4, od4, .func (PySem.W.fnOf "check_items" "check_items" (defArgs s_check_items) (defBody s_check_items) (defScope s_check_items) .none kV4 dc4 pm4 an4 cd4 ct4), sl4⟩) (c4 : PySem.W.codeIn K cd4 "check_items" = true) (k4 : PySem.W.keepIn K (.ref f4) = true)
    {f5 : Addr} {od5 an5 : Option Addr} {sl5 : Array (Option Value)} {oc5 kV5 dc5 pm5 cd5 ct5 : Value} (a5 : PySem.W.nsIn K mainGlobals "find_row_fault" = some (some (.ref f5))) (l5 : K.lookup f5 = some ⟨oc5, od5, .func (PySem.W.fnOf "find_row_fault" "find_row_fault" (defArgs s_find_row_fault) (defBody s_find_row_fault) (defScope s_find_row_fault) .none kV5 dc5 pm5 an5 cd5 ct5), sl5⟩) (c5 : PySem.W.codeIn K cd5 "find_row_fault" = true) (k5 : PySem.W.keepIn K (.ref f5) = true)
    {f6 : Addr} {od6 an6 : Option Addr} {sl6 : Array (Option Value)} {oc6 kV6 dc6 pm6 cd6 ct6 : Value} (a6 : PySem.W.nsIn K mainGlobals "find_fault" = some (some (.ref f6))) (l6 : K.lookup f6 = some ⟨oc6, od6, .func (PySem.W.fnOf "find_fault" "find_fault" (defArgs s_find_fault) (defBody s_find_fault) (defScope s_find_fault) .none kV6 dc6 pm6 an6 cd6 ct6), sl6⟩) (c6 : PySem.W.codeIn K cd6 "find_fault" = true) (k6 : PySem.W.keepIn K (.ref f6) = true)
    {f7 : Addr} {od7 an7 : Option Addr} {sl7 : Array (Option Value)} {oc7 kV7 dc7 pm7 cd7 ct7 : Value} (a7 : PySem.W.nsIn K mainGlobals "level_between" = some (some (.ref f7))) (l7 : K.lookup f7 = some ⟨oc7, od7, .func (PySem.W.fnOf "level_between" "level_between" (defArgs s_level_between) (defBody s_level_between) (defScope s_level_between) .none kV7 dc7 pm7 an7 cd7 ct7), sl7⟩) (c7 : PySem.W.codeIn K cd7 "level_between" = true) (k7 : PySem.W.keepIn K (.ref f7) = true)
    {f8 : Addr} {od8 an8 : Option Addr} {sl8 : Array (Option Value)} {oc8 kV8 dc8 pm8 cd8 ct8 : Value} (a8 : PySem.W.nsIn K mainGlobals "level_of" = some (some (.ref f8))) (l8 : K.lookup f8 = some ⟨oc8, od8, .func (PySem.W.fnOf "level_of" "level_of" (defArgs s_level_of) (defBody s_level_of) (defScope s_level_of) .none kV8 dc8 pm8 an8 cd8 ct8), sl8⟩) (c8 : PySem.W.codeIn K cd8 "level_of" = true) (k8 : PySem.W.keepIn K (.ref f8) = true)
    {f9 : Addr} {od9 an9 : Option Addr} {sl9 : Array (Option Value)} {oc9 kV9 dc9 pm9 cd9 ct9 : Value} (a9 : PySem.W.nsIn K mainGlobals "levels_of" = some (some (.ref f9))) (l9 : K.lookup f9 = some ⟨oc9, od9, .func (PySem.W.fnOf "levels_of" "levels_of" (defArgs s_levels_of) (defBody s_levels_of) (defScope s_levels_of) .none kV9 dc9 pm9 an9 cd9 ct9), sl9⟩) (c9 : PySem.W.codeIn K cd9 "levels_of" = true) (k9 : PySem.W.keepIn K (.ref f9) = true)
    {f10 : Addr} {od10 an10 : Option Addr} {sl10 : Array (Option Value)} {oc10 kV10 dc10 pm10 cd10 ct10 : Value} (a10 : PySem.W.nsIn K mainGlobals "pairs_of" = some (some (.ref f10))) (l10 : K.lookup f10 = some ⟨oc10, od10, .func (PySem.W.fnOf "pairs_of" "pairs_of" (defArgs s_pairs_of) (defBody s_pairs_of) (defScope s_pairs_of) .none kV10 dc10 pm10 an10 cd10 ct10), sl10⟩) (c10 : PySem.W.codeIn K cd10 "pairs_of" = true) (k10 : PySem.W.keepIn K (.ref f10) = true)
    {f11 : Addr} {od11 an11 : Option Addr} {sl11 : Array (Option Value)} {oc11 kV11 dc11 pm11 cd11 ct11 : Value} (a11 : PySem.W.nsIn K mainGlobals "is_even" = some (some (.ref f11))) (l11 : K.lookup f11 = some ⟨oc11, od11, .func (PySem.W.fnOf "is_even" "is_even" (defArgs s_is_even) (defBody s_is_even) (defScope s_is_even) .none kV11 dc11 pm11 an11 cd11 ct11), sl11⟩) (c11 : PySem.W.codeIn K cd11 "is_even" = true) (k11 : PySem.W.keepIn K (.ref f11) = true)
    {f12 : Addr} {od12 an12 : Option Addr} {sl12 : Array (Option Value)} {oc12 kV12 dc12 pm12 cd12 ct12 : Value} (a12 : PySem.W.nsIn K mainGlobals "uneven_items" = some (some (.ref f12))) (l12 : K.lookup f12 = some ⟨oc12, od12, .func (PySem.W.fnOf "uneven_items" "uneven_items" (defArgs s_uneven_items) (defBody s_uneven_items) (defScope s_uneven_items) .none kV12 dc12 pm12 an12 cd12 ct12), sl12⟩) (c12 : PySem.W.codeIn K cd12 "uneven_items" = true) (k12 : PySem.W.keepIn K (.ref f12) = true)
    {f13 : Addr} {od13 an13 : Option Addr} {sl13 : Array (Option Value)} {oc13 kV13 dc13 pm13 cd13 ct13 : Value} (a13 : PySem.W.nsIn K mainGlobals "is_nested" = some (some (.ref f13))) (l13 : K.lookup f13 = some ⟨oc13, od13, .func (PySem.W.fnOf "is_nested" "is_nested" (defArgs s_is_nested) (defBody s_is_nested) (defScope s_is_nested) .none kV13 dc13 pm13 an13 cd13 ct13), sl13⟩) (c13 : PySem.W.codeIn K cd13 "is_nested" = true) (k13 : PySem.W.keepIn K (.ref f13) = true)
    {f14 : Addr} {od14 an14 : Option Addr} {sl14 : Array (Option Value)} {oc14 kV14 dc14 pm14 cd14 ct14 : Value} (a14 : PySem.W.nsIn K mainGlobals "_law_draws" = some (some (.ref f14))) (l14 : K.lookup f14 = some ⟨oc14, od14, .func (PySem.W.fnOf "_law_draws" "_law_draws" (defArgs s_L_draws) (defBody s_L_draws) (defScope s_L_draws) .none kV14 dc14 pm14 an14 cd14 ct14), sl14⟩) (c14 : PySem.W.codeIn K cd14 "_law_draws" = true) (k14 : PySem.W.keepIn K (.ref f14) = true)
    {f15 : Addr} {od15 an15 : Option Addr} {sl15 : Array (Option Value)} {oc15 kV15 dc15 pm15 cd15 ct15 : Value} (a15 : PySem.W.nsIn K mainGlobals "_law_next" = some (some (.ref f15))) (l15 : K.lookup f15 = some ⟨oc15, od15, .func (PySem.W.fnOf "_law_next" "_law_next" (defArgs s_L_next) (defBody s_L_next) (defScope s_L_next) .none kV15 dc15 pm15 an15 cd15 ct15), sl15⟩) (c15 : PySem.W.codeIn K cd15 "_law_next" = true) (k15 : PySem.W.keepIn K (.ref f15) = true)
    {f16 : Addr} {od16 an16 : Option Addr} {sl16 : Array (Option Value)} {oc16 kV16 dc16 pm16 cd16 ct16 : Value} (a16 : PySem.W.nsIn K mainGlobals "_law_one" = some (some (.ref f16))) (l16 : K.lookup f16 = some ⟨oc16, od16, .func (PySem.W.fnOf "_law_one" "_law_one" (defArgs s_L_one) (defBody s_L_one) (defScope s_L_one) .none kV16 dc16 pm16 an16 cd16 ct16), sl16⟩) (c16 : PySem.W.codeIn K cd16 "_law_one" = true) (k16 : PySem.W.keepIn K (.ref f16) = true)
    {f17 : Addr} {od17 an17 : Option Addr} {sl17 : Array (Option Value)} {oc17 kV17 dc17 pm17 cd17 ct17 : Value} (a17 : PySem.W.nsIn K mainGlobals "_law_count" = some (some (.ref f17))) (l17 : K.lookup f17 = some ⟨oc17, od17, .func (PySem.W.fnOf "_law_count" "_law_count" (defArgs s_L_count) (defBody s_L_count) (defScope s_L_count) .none kV17 dc17 pm17 an17 cd17 ct17), sl17⟩) (c17 : PySem.W.codeIn K cd17 "_law_count" = true) (k17 : PySem.W.keepIn K (.ref f17) = true)
    {f18 : Addr} {od18 an18 : Option Addr} {sl18 : Array (Option Value)} {oc18 kV18 dc18 pm18 cd18 ct18 : Value} (a18 : PySem.W.nsIn K mainGlobals "_law_grades" = some (some (.ref f18))) (l18 : K.lookup f18 = some ⟨oc18, od18, .func (PySem.W.fnOf "_law_grades" "_law_grades" (defArgs s_L_grades) (defBody s_L_grades) (defScope s_L_grades) .none kV18 dc18 pm18 an18 cd18 ct18), sl18⟩) (c18 : PySem.W.codeIn K cd18 "_law_grades" = true) (k18 : PySem.W.keepIn K (.ref f18) = true)
    {f19 : Addr} {od19 an19 : Option Addr} {sl19 : Array (Option Value)} {oc19 kV19 dc19 pm19 cd19 ct19 : Value} (a19 : PySem.W.nsIn K mainGlobals "_law_level" = some (some (.ref f19))) (l19 : K.lookup f19 = some ⟨oc19, od19, .func (PySem.W.fnOf "_law_level" "_law_level" (defArgs s_L_level) (defBody s_L_level) (defScope s_L_level) .none kV19 dc19 pm19 an19 cd19 ct19), sl19⟩) (c19 : PySem.W.codeIn K cd19 "_law_level" = true) (k19 : PySem.W.keepIn K (.ref f19) = true)
    {f20 : Addr} {od20 an20 : Option Addr} {sl20 : Array (Option Value)} {oc20 kV20 dc20 pm20 cd20 ct20 : Value} (a20 : PySem.W.nsIn K mainGlobals "_law_nested" = some (some (.ref f20))) (l20 : K.lookup f20 = some ⟨oc20, od20, .func (PySem.W.fnOf "_law_nested" "_law_nested" (defArgs s_L_nested) (defBody s_L_nested) (defScope s_L_nested) .none kV20 dc20 pm20 an20 cd20 ct20), sl20⟩) (c20 : PySem.W.codeIn K cd20 "_law_nested" = true) (k20 : PySem.W.keepIn K (.ref f20) = true)
    {f21 : Addr} {od21 an21 : Option Addr} {sl21 : Array (Option Value)} {oc21 kV21 dc21 pm21 cd21 ct21 : Value} (a21 : PySem.W.nsIn K mainGlobals "_law_raised" = some (some (.ref f21))) (l21 : K.lookup f21 = some ⟨oc21, od21, .func (PySem.W.fnOf "_law_raised" "_law_raised" (defArgs s_L_raised) (defBody s_L_raised) (defScope s_L_raised) .none kV21 dc21 pm21 an21 cd21 ct21), sl21⟩) (c21 : PySem.W.codeIn K cd21 "_law_raised" = true) (k21 : PySem.W.keepIn K (.ref f21) = true)
    {f22 : Addr} {od22 an22 : Option Addr} {sl22 : Array (Option Value)} {oc22 kV22 dc22 pm22 cd22 ct22 : Value} (a22 : PySem.W.nsIn K mainGlobals "_law_levels" = some (some (.ref f22))) (l22 : K.lookup f22 = some ⟨oc22, od22, .func (PySem.W.fnOf "_law_levels" "_law_levels" (defArgs s_L_levels) (defBody s_L_levels) (defScope s_L_levels) .none kV22 dc22 pm22 an22 cd22 ct22), sl22⟩) (c22 : PySem.W.codeIn K cd22 "_law_levels" = true) (k22 : PySem.W.keepIn K (.ref f22) = true)
    {f23 : Addr} {od23 an23 : Option Addr} {sl23 : Array (Option Value)} {oc23 kV23 dc23 pm23 cd23 ct23 : Value} (a23 : PySem.W.nsIn K mainGlobals "_law_any" = some (some (.ref f23))) (l23 : K.lookup f23 = some ⟨oc23, od23, .func (PySem.W.fnOf "_law_any" "_law_any" (defArgs s_L_any) (defBody s_L_any) (defScope s_L_any) .none kV23 dc23 pm23 an23 cd23 ct23), sl23⟩) (c23 : PySem.W.codeIn K cd23 "_law_any" = true) (k23 : PySem.W.keepIn K (.ref f23) = true)
    {f24 : Addr} {od24 an24 : Option Addr} {sl24 : Array (Option Value)} {oc24 kV24 dc24 pm24 cd24 ct24 : Value} (a24 : PySem.W.nsIn K mainGlobals "_law_table" = some (some (.ref f24))) (l24 : K.lookup f24 = some ⟨oc24, od24, .func (PySem.W.fnOf "_law_table" "_law_table" (defArgs s_L_table) (defBody s_L_table) (defScope s_L_table) .none kV24 dc24 pm24 an24 cd24 ct24), sl24⟩) (c24 : PySem.W.codeIn K cd24 "_law_table" = true) (k24 : PySem.W.keepIn K (.ref f24) = true)
    {f25 : Addr} {od25 an25 : Option Addr} {sl25 : Array (Option Value)} {oc25 kV25 dc25 pm25 cd25 ct25 : Value} (a25 : PySem.W.nsIn K mainGlobals "_law_mixed" = some (some (.ref f25))) (l25 : K.lookup f25 = some ⟨oc25, od25, .func (PySem.W.fnOf "_law_mixed" "_law_mixed" (defArgs s_L_mixed) (defBody s_L_mixed) (defScope s_L_mixed) .none kV25 dc25 pm25 an25 cd25 ct25), sl25⟩) (c25 : PySem.W.codeIn K cd25 "_law_mixed" = true) (k25 : PySem.W.keepIn K (.ref f25) = true)
    {f26 : Addr} {od26 an26 : Option Addr} {sl26 : Array (Option Value)} {oc26 kV26 dc26 pm26 cd26 ct26 : Value} (a26 : PySem.W.nsIn K mainGlobals "_law_renamed" = some (some (.ref f26))) (l26 : K.lookup f26 = some ⟨oc26, od26, .func (PySem.W.fnOf "_law_renamed" "_law_renamed" (defArgs s_L_renamed) (defBody s_L_renamed) (defScope s_L_renamed) .none kV26 dc26 pm26 an26 cd26 ct26), sl26⟩) (c26 : PySem.W.codeIn K cd26 "_law_renamed" = true) (k26 : PySem.W.keepIn K (.ref f26) = true)
    {f27 : Addr} {od27 an27 : Option Addr} {sl27 : Array (Option Value)} {oc27 kV27 dc27 pm27 cd27 ct27 : Value} (a27 : PySem.W.nsIn K mainGlobals "_law_same_levels" = some (some (.ref f27))) (l27 : K.lookup f27 = some ⟨oc27, od27, .func (PySem.W.fnOf "_law_same_levels" "_law_same_levels" (defArgs s_L_same_levels) (defBody s_L_same_levels) (defScope s_L_same_levels) .none kV27 dc27 pm27 an27 cd27 ct27), sl27⟩) (c27 : PySem.W.codeIn K cd27 "_law_same_levels" = true) (k27 : PySem.W.keepIn K (.ref f27) = true)
    {f28 : Addr} {od28 an28 : Option Addr} {sl28 : Array (Option Value)} {oc28 kV28 dc28 pm28 cd28 ct28 : Value} (a28 : PySem.W.nsIn K mainGlobals "_law_is_even" = some (some (.ref f28))) (l28 : K.lookup f28 = some ⟨oc28, od28, .func (PySem.W.fnOf "_law_is_even" "_law_is_even" (defArgs s_L_is_even) (defBody s_L_is_even) (defScope s_L_is_even) .none kV28 dc28 pm28 an28 cd28 ct28), sl28⟩) (c28 : PySem.W.codeIn K cd28 "_law_is_even" = true) (k28 : PySem.W.keepIn K (.ref f28) = true)
    {f29 : Addr} {od29 an29 : Option Addr} {sl29 : Array (Option Value)} {oc29 kV29 dc29 pm29 cd29 ct29 : Value} (a29 : PySem.W.nsIn K mainGlobals "law" = some (some (.ref f29))) (l29 : K.lookup f29 = some ⟨oc29, od29, .func (PySem.W.fnOf "law" "law" (defArgs s_law) (defBody s_law) (defScope s_law) .none kV29 dc29 pm29 an29 cd29 ct29), sl29⟩) (c29 : PySem.W.codeIn K cd29 "law" = true) (k29 : PySem.W.keepIn K (.ref f29) = true)
    {t_ITEMS : Tok} (n_ITEMS : PySem.W.nsIn K mainGlobals "ITEMS" = some (some (.int 12 t_ITEMS))) {t_LEVEL : Tok} (n_LEVEL : PySem.W.nsIn K mainGlobals "LEVEL" = some (some (.int 1000000000000 t_LEVEL))) (z1 : PySem.W.nsIn K mainGlobals "len" = some none) (z2 : PySem.W.nsIn K mainGlobals "list" = some none) (z3 : PySem.W.nsIn K mainGlobals "int" = some none) (z4 : PySem.W.nsIn K mainGlobals "range" = some none) (z5 : PySem.W.nsIn K mainGlobals "sorted" = some none) (z6 : PySem.W.nsIn K mainGlobals "set" = some none) (z7 : PySem.W.nsIn K mainGlobals "tuple" = some none) (z8 : PySem.W.nsIn K mainGlobals "min" = some none) (z9 : PySem.W.nsIn K mainGlobals "max" = some none) (z10 : PySem.W.nsIn K mainGlobals "isinstance" = some none) (z11 : PySem.W.nsIn K mainGlobals "bool" = some none) (z12 : PySem.W.nsIn K mainGlobals "str" = some none) (z13 : PySem.W.nsIn K mainGlobals "all" = some none) (z14 : PySem.W.nsIn K mainGlobals "zip" = some none) (z15 : PySem.W.nsIn K mainGlobals "repr" = some none) (z16 : PySem.W.nsIn K mainGlobals "enumerate" = some none) :
    ∃ fd : FuncData, (∀ (s : Shared) (v : Value), BindsTo s fd ⟨[v], []⟩ [("_law_script", v)]) ∧ ∀ base : Heap, K.In base → base.Ns mainGlobals mg → FnOk l.prog w K mg base CX0 6 fa fd ["_law_script"] (sp_law K) := by
  have e := hfa.symm.trans (PySem.W.mg_of X G a29)
  cases e
  have B : Bi mg := ⟨PySem.W.mg_none_of X G z1, PySem.W.mg_none_of X G z2, PySem.W.mg_none_of X G z3, PySem.W.mg_none_of X G z4, PySem.W.mg_none_of X G z5, PySem.W.mg_none_of X G z6, PySem.W.mg_none_of X G z7, PySem.W.mg_none_of X G z8, PySem.W.mg_none_of X G z9, PySem.W.mg_none_of X G z10, PySem.W.mg_none_of X G z11, PySem.W.mg_none_of X G z12, PySem.W.mg_none_of X G z13, PySem.W.mg_none_of X G z14, PySem.W.mg_none_of X G z15, PySem.W.mg_none_of X G z16⟩
  have g_ITEMS : ∃ t, mg "ITEMS" = some (.int 12 t) := ⟨_, PySem.W.mg_of X G n_ITEMS⟩
  have g_LEVEL : ∃ t, mg "LEVEL" = some (.int 1000000000000 t) := ⟨_, PySem.W.mg_of X G n_LEVEL⟩
  have d_is_whole := df_mk (st := s_is_whole) (ps := ["value"]) X G a1 l1 c1 k1 (fun _ _ _ _ _ _ us hl => match us, hl with | [_], _ => rfl)
  have d_is_level := df_mk (st := s_is_level) (ps := ["value"]) X G a2 l2 c2 k2 (fun _ _ _ _ _ _ us hl => match us, hl with | [_], _ => rfl)
  have d_is_item := df_mk (st := s_is_item) (ps := ["table", "value"]) X G a3 l3 c3 k3 (fun _ _ _ _ _ _ us hl => match us, hl with | [_, _], _ => rfl)
  have d_check_items := df_mk (st := s_check_items) (ps := ["table", "one", "other"]) X G a4 l4 c4 k4 (fun _ _ _ _ _ _ us hl => match us, hl with | [_, _, _], _ => rfl)
  have d_find_row_fault := df_mk (st := s_find_row_fault) (ps := ["at", "row"]) X G a5 l5 c5 k5 (fun _ _ _ _ _ _ us hl => match us, hl with | [_, _], _ => rfl)
  have d_find_fault := df_mk (st := s_find_fault) (ps := ["value"]) X G a6 l6 c6 k6 (fun _ _ _ _ _ _ us hl => match us, hl with | [_], _ => rfl)
  have d_level_between := df_mk (st := s_level_between) (ps := ["table", "one", "other"]) X G a7 l7 c7 k7 (fun _ _ _ _ _ _ us hl => match us, hl with | [_, _, _], _ => rfl)
  have d_level_of := df_mk (st := s_level_of) (ps := ["table", "one", "other"]) X G a8 l8 c8 k8 (fun _ _ _ _ _ _ us hl => match us, hl with | [_, _, _], _ => rfl)
  have d_levels_of := df_mk (st := s_levels_of) (ps := ["table"]) X G a9 l9 c9 k9 (fun _ _ _ _ _ _ us hl => match us, hl with | [_], _ => rfl)
  have d_pairs_of := df_mk (st := s_pairs_of) (ps := ["table"]) X G a10 l10 c10 k10 (fun _ _ _ _ _ _ us hl => match us, hl with | [_], _ => rfl)
  have d_is_even := df_mk (st := s_is_even) (ps := ["table", "one", "other", "third"]) X G a11 l11 c11 k11 (fun _ _ _ _ _ _ us hl => match us, hl with | [_, _, _, _], _ => rfl)
  have d_uneven_items := df_mk (st := s_uneven_items) (ps := ["table"]) X G a12 l12 c12 k12 (fun _ _ _ _ _ _ us hl => match us, hl with | [_], _ => rfl)
  have d_is_nested := df_mk (st := s_is_nested) (ps := ["table"]) X G a13 l13 c13 k13 (fun _ _ _ _ _ _ us hl => match us, hl with | [_], _ => rfl)
  have d_L_draws := df_mk (st := s_L_draws) (ps := ["_law_script"]) X G a14 l14 c14 k14 (fun _ _ _ _ _ _ us hl => match us, hl with | [_], _ => rfl)
  have d_L_next := df_mk (st := s_L_next) (ps := ["_law_drawn", "_law_many"]) X G a15 l15 c15 k15 (fun _ _ _ _ _ _ us hl => match us, hl with | [_, _], _ => rfl)
  have d_L_one := df_mk (st := s_L_one) (ps := ["_law_drawn", "_law_items"]) X G a16 l16 c16 k16 (fun _ _ _ _ _ _ us hl => match us, hl with | [_, _], _ => rfl)
  have d_L_count := df_mk (st := s_L_count) (ps := ["_law_drawn", "_law_most"]) X G a17 l17 c17 k17 (fun _ _ _ _ _ _ us hl => match us, hl with | [_, _], _ => rfl)
  have d_L_grades := df_mk (st := s_L_grades) (ps := ["_law_drawn"]) X G a18 l18 c18 k18 (fun _ _ _ _ _ _ us hl => match us, hl with | [_], _ => rfl)
  have d_L_level := df_mk (st := s_L_level) (ps := ["_law_table_here", "_law_one_here", "_law_other"]) X G a19 l19 c19 k19 (fun _ _ _ _ _ _ us hl => match us, hl with | [_, _, _], _ => rfl)
  have d_L_nested := df_mk (st := s_L_nested) (ps := ["_law_drawn", "_law_count_here", "_law_grades_here"]) X G a20 l20 c20 k20 (fun _ _ _ _ _ _ us hl => match us, hl with | [_, _, _], _ => rfl)
  have d_L_raised := df_mk (st := s_L_raised) (ps := ["_law_drawn", "_law_table_here", "_law_grades_here"]) X G a21 l21 c21 k21 (fun _ _ _ _ _ _ us hl => match us, hl with | [_, _, _], _ => rfl)
  have d_L_levels := df_mk (st := s_L_levels) (ps := ["_law_drawn", "_law_many", "_law_grades_here"]) X G a22 l22 c22 k22 (fun _ _ _ _ _ _ us hl => match us, hl with | [_, _, _], _ => rfl)
  have d_L_any := df_mk (st := s_L_any) (ps := ["_law_drawn", "_law_many", "_law_wide"]) X G a23 l23 c23 k23 (fun _ _ _ _ _ _ us hl => match us, hl with | [_, _, _], _ => rfl)
  have d_L_table := df_mk (st := s_L_table) (ps := ["_law_drawn", "_law_count_here"]) X G a24 l24 c24 k24 (fun _ _ _ _ _ _ us hl => match us, hl with | [_, _], _ => rfl)
  have d_L_mixed := df_mk (st := s_L_mixed) (ps := ["_law_drawn", "_law_items"]) X G a25 l25 c25 k25 (fun _ _ _ _ _ _ us hl => match us, hl with | [_, _], _ => rfl)
  have d_L_renamed := df_mk (st := s_L_renamed) (ps := ["_law_table_here", "_law_order"]) X G a26 l26 c26 k26 (fun _ _ _ _ _ _ us hl => match us, hl with | [_, _], _ => rfl)
  have d_L_same_levels := df_mk (st := s_L_same_levels) (ps := ["_law_table_here", "_law_other", "_law_order"]) X G a27 l27 c27 k27 (fun _ _ _ _ _ _ us hl => match us, hl with | [_, _, _], _ => rfl)
  have d_L_is_even := df_mk (st := s_L_is_even) (ps := ["_law_table_here", "_law_three"]) X G a28 l28 c28 k28 (fun _ _ _ _ _ _ us hl => match us, hl with | [_, _], _ => rfl)
  have T : LawDefs K mg := ⟨⟨B, ⟨_, _, d_L_next⟩, ⟨_, _, d_L_one⟩, ⟨_, _, d_L_count⟩, ⟨_, _, d_L_grades⟩, ⟨_, _, d_L_level⟩, ⟨_, _, d_L_nested⟩, ⟨_, _, d_L_raised⟩, ⟨_, _, d_L_levels⟩, ⟨_, _, d_L_any⟩⟩,
    ⟨B, ⟨_, _, d_level_between⟩, ⟨_, _, d_pairs_of⟩, ⟨_, _, d_is_even⟩⟩, ⟨B, ⟨_, _, d_level_between⟩, ⟨_, _, d_is_whole⟩, ⟨_, _, d_is_item⟩, ⟨_, _, d_check_items⟩, ⟨_, _, d_level_of⟩⟩,
    ⟨B, g_LEVEL, g_ITEMS, ⟨_, _, d_is_whole⟩, ⟨_, _, d_is_level⟩, ⟨_, _, d_find_row_fault⟩⟩,
    ⟨_, _, d_L_draws⟩, ⟨_, _, d_L_table⟩, ⟨_, _, d_uneven_items⟩, ⟨_, _, d_is_nested⟩, ⟨_, _, d_levels_of⟩, ⟨_, _, d_find_fault⟩, ⟨_, _, d_L_mixed⟩, ⟨_, _, d_L_renamed⟩, ⟨_, _, d_L_same_levels⟩, ⟨_, _, d_L_is_even⟩⟩
  exact ⟨PySem.W.fnOf "law" "law" (defArgs s_law) (defBody s_law) (defScope s_law) .none kV29 dc29 pm29 an29 cd29 ct29, fun s v => .of_eq rfl, fun base _ _ => ok_law (fun_mk l29 c29 k29) T⟩
end Ml
open PySem PySem.W PyProof.Rows
set_option maxHeartbeats 0 in
theorem PySem.Challenge.cw_mergelevels_k06_whole_names_of_items_holds : PySem.Challenge.rw_mergelevels_k06_whole_names_of_items.Holds := by
  w_on; o_law; k_head; (case hw => w_witness2)
  k_fill
  refine L2.walk_ofK (l := PySem.Challenge.rw_mergelevels_k06_whole_names_of_items) (n := 63) (k := 6) (x := "_law_script") (CX := L2.CX0) (sp := Ml.sp_law) rfl (by decide) rfl ⟨rfl, by decide, by decide⟩ (fun w h Y => PySem.W.kIn_of Y) ?F (fun K H a ns hl _ hS => ⟨a, ns, rfl, hS, hl, fun _ => rfl⟩) (fun _ _ _ _ h => h)
  case F =>
    intro w mg fa h KX G hmg
    refine' Ml.all_mk KX G hmg ?a1 ?l1 ?c1 ?k1 ?a2 ?l2 ?c2 ?k2 ?a3 ?l3 ?c3 ?k3 ?a4 ?l4 ?c4 ?k4 ?a5 ?l5 ?c5 ?k5 ?a6 ?l6 ?c6 ?k6 ?a7 ?l7 ?c7 ?k7 ?a8 ?l8 ?c8 ?k8 ?a9 ?l9 ?c9 ?k9 ?a10 ?l10 ?c10 ?k10 ?a11 ?l11 ?c11 ?k11 ?a12 ?l12 ?c12 ?k12 ?a13 ?l13 ?c13 ?k13 ?a14 ?l14 ?c14 ?k14 ?a15 ?l15 ?c15 ?k15 ?a16 ?l16 ?c16 ?k16 ?a17 ?l17 ?c17 ?k17 ?a18 ?l18 ?c18 ?k18 ?a19 ?l19 ?c19 ?k19 ?a20 ?l20 ?c20 ?k20 ?a21 ?l21 ?c21 ?k21 ?a22 ?l22 ?c22 ?k22 ?a23 ?l23 ?c23 ?k23 ?a24 ?l24 ?c24 ?k24 ?a25 ?l25 ?c25 ?k25 ?a26 ?l26 ?c26 ?k26 ?a27 ?l27 ?c27 ?k27 ?a28 ?l28 ?c28 ?k28 ?a29 ?l29 ?c29 ?k29 ?n_ITEMS ?n_LEVEL ?z1 ?z2 ?z3 ?z4 ?z5 ?z6 ?z7 ?z8 ?z9 ?z10 ?z11 ?z12 ?z13 ?z14 ?z15 ?z16
    (case a1 => k_is)
    (case l1 => k_is)
    (case c1 => k_is)
    (case k1 => k_is)
    (case a2 => k_is)
    (case l2 => k_is)
    (case c2 => k_is)
    (case k2 => k_is)
    (case a3 => k_is)
    (case l3 => k_is)
    (case c3 => k_is)
    (case k3 => k_is)
    (case a4 => k_is)
    (case l4 => k_is)
    (case c4 => k_is)
    (case k4 => k_is)
    (case a5 => k_is)
    (case l5 => k_is)
    (case c5 => k_is)
    (case k5 => k_is)
    (case a6 => k_is)
    (case l6 => k_is)
    (case c6 => k_is)
    (case k6 => k_is)
    (case a7 => k_is)
    (case l7 => k_is)
    (case c7 => k_is)
    (case k7 => k_is)
    (case a8 => k_is)
    (case l8 => k_is)
    (case c8 => k_is)
    (case k8 => k_is)
    (case a9 => k_is)
    (case l9 => k_is)
    (case c9 => k_is)
    (case k9 => k_is)
    (case a10 => k_is)
    (case l10 => k_is)
    (case c10 => k_is)
    (case k10 => k_is)
    (case a11 => k_is)
    (case l11 => k_is)
    (case c11 => k_is)
    (case k11 => k_is)
    (case a12 => k_is)
    (case l12 => k_is)
    (case c12 => k_is)
    (case k12 => k_is)
    (case a13 => k_is)
    (case l13 => k_is)
    (case c13 => k_is)
    (case k13 => k_is)
    (case a14 => k_is)
    (case l14 => k_is)
    (case c14 => k_is)
    (case k14 => k_is)
    (case a15 => k_is)
    (case l15 => k_is)
    (case c15 => k_is)
    (case k15 => k_is)
    (case a16 => k_is)
    (case l16 => k_is)
    (case c16 => k_is)
    (case k16 => k_is)
    (case a17 => k_is)
    (case l17 => k_is)
    (case c17 => k_is)
    (case k17 => k_is)
    (case a18 => k_is)
    (case l18 => k_is)
    (case c18 => k_is)
    (case k18 => k_is)
    (case a19 => k_is)
    (case l19 => k_is)
    (case c19 => k_is)
    (case k19 => k_is)
    (case a20 => k_is)
    (case l20 => k_is)
    (case c20 => k_is)
    (case k20 => k_is)
    (case a21 => k_is)
    (case l21 => k_is)
    (case c21 => k_is)
    (case k21 => k_is)
    (case a22 => k_is)
    (case l22 => k_is)
    (case c22 => k_is)
    (case k22 => k_is)
    (case a23 => k_is)
    (case l23 => k_is)
    (case c23 => k_is)
    (case k23 => k_is)
    (case a24 => k_is)
    (case l24 => k_is)
    (case c24 => k_is)
    (case k24 => k_is)
    (case a25 => k_is)
    (case l25 => k_is)
    (case c25 => k_is)
    (case k25 => k_is)
    (case a26 => k_is)
    (case l26 => k_is)
    (case c26 => k_is)
    (case k26 => k_is)
    (case a27 => k_is)
    (case l27 => k_is)
    (case c27 => k_is)
    (case k27 => k_is)
    (case a28 => k_is)
    (case l28 => k_is)
    (case c28 => k_is)
    (case k28 => k_is)
    (case a29 => k_is)
    (case l29 => k_is)
    (case c29 => k_is)
    (case k29 => k_is)
    (case n_ITEMS => k_is)
    (case n_LEVEL => k_is)
    (case z1 => k_is)
    (case z2 => k_is)
    (case z3 => k_is)
    (case z4 => k_is)
    (case z5 => k_is)
    (case z6 => k_is)
    (case z7 => k_is)
    (case z8 => k_is)
    (case z9 => k_is)
    (case z10 => k_is)
    (case z11 => k_is)
    (case z12 => k_is)
    (case z13 => k_is)
    (case z14 => k_is)
    (case z15 => k_is)
    (case z16 => k_is)
